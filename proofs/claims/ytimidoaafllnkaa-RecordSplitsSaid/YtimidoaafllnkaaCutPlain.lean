/-
  Bytes cut into parts are the same events, joined: plainly.
-/
import Derived.Test.YtimidoaafllnkaaEscPlain
namespace Go.Proofs.Ytimidoaafllnkaa.Iac
open Go.RowKit Base
set_option linter.unusedVariables false

/-- Data has bytes. -/
def Good (L : List Ev) : Prop := ∀ e ∈ L, e.kind = 1 → e.bytes ≠ []
theorem good_snoc {L : List Ev} {e : Ev} (h : Good L) (he : e.kind = 1 → e.bytes ≠ []) : Good (L ++ [e]) := fun f hf => by
  rcases List.mem_append.1 hf with hf | hf
  · exact h f hf
  · rw [List.mem_singleton.1 hf]; exact he
theorem joinL_append (A B : List Ev) : joinL (A ++ B) = B.foldl joinE (joinL A) := by simp [joinL]
theorem addL_addL (M : List Ev) (e f : Ev) (he : e.kind = 1) (hf : f.kind = 1) : addL (addL M e) f = addL M { e with bytes := e.bytes ++ f.bytes } := by
  rcases List.eq_nil_or_concat M with rfl | ⟨Q, g, rfl⟩
  · show addL ([] ++ [e]) f = [{ e with bytes := e.bytes ++ f.bytes }]
    rw [addL_data _ _ _ he hf]; rfl
  · rw [List.concat_eq_append]
    by_cases hg : g.kind = 1
    · rw [addL_data _ _ _ hg he, addL_data Q { g with bytes := g.bytes ++ e.bytes } f hg hf, addL_data _ _ _ hg (by exact he)]
      simp
    · rw [addL_other _ _ _ fun h => hg h.1, addL_data _ _ _ he hf, addL_other _ _ _ fun h => hg h.1]
theorem joinE_data (M : List Ev) (e : Ev) (h : e.bytes ≠ []) : joinE M e = addL M e := by unfold joinE; rw [if_neg fun h' => h h'.2]
theorem join_lay (A J : List Ev) (x : Int) (h : Good J) : joinL (A ++ layL J x) = joinL (A ++ J ++ [⟨1, 0, 0, [x]⟩]) ∧ Good (layL J x) := by
  rcases List.eq_nil_or_concat J with rfl | ⟨Q, e, rfl⟩
  · exact ⟨by simp [layL], fun e he => by simp [layL] at he; subst he; simp⟩
  · rw [List.concat_eq_append] at h ⊢
    have hQ : Good Q := fun f hf => h f (by simp [hf])
    by_cases hk : e.kind = 1
    · rw [layL_data _ _ _ hk]
      refine ⟨?_, good_snoc hQ fun _ => by simp⟩
      rw [← List.append_assoc, ← List.append_assoc, joinL_snoc, joinL_snoc, joinL_snoc, joinE_data _ _ (by simp), joinE_data _ e (h e (by simp) hk), joinE_data _ _ (by simp), addL_addL _ _ _ hk rfl]
    · rw [layL_other _ _ _ hk]
      exact ⟨by simp, good_snoc h fun _ => by simp⟩
/-- A byte behind events, and behind none. -/
theorem take_join (D : Dec) (A J : List Ev) (x : Int) (h : Good J) : joinL (A ++ (takeD D J x).2) = joinL (A ++ J ++ (takeD D [] x).2) ∧ (takeD D J x).1 = (takeD D [] x).1 ∧ Good (takeD D J x).2 := by
  have hl : ∀ y, joinL (A ++ layL J y) = joinL (A ++ J ++ layL [] y) ∧ Good (layL J y) := fun y => join_lay A J y h
  have hs : ∀ e : Ev, (e.kind = 1 → e.bytes ≠ []) → joinL (A ++ (J ++ [e])) = joinL (A ++ J ++ ([] ++ [e])) ∧ Good (J ++ [e]) := fun e he => ⟨by simp, good_snoc h he⟩
  have hc : ∀ (K K' : List Ev), joinL (A ++ K) = joinL (A ++ J ++ K') → Good K → K' = [] ∨ (∃ e, K' = [e] ∧ e.kind ≠ 1 ∧ K = J ++ [e]) → joinL (A ++ (commandD D K x).2) = joinL (A ++ J ++ (commandD D K' x).2) ∧ (commandD D K x).1 = (commandD D K' x).1 ∧ Good (commandD D K x).2 := by
    intro K K' hj hg hK
    unfold commandD
    split
    · refine ⟨?_, rfl, (join_lay A K x hg).2⟩
      show joinL (A ++ layL K x) = joinL (A ++ J ++ layL K' x)
      rw [(join_lay A K x hg).1, joinL_snoc, hj]
      rcases hK with rfl | ⟨e, rfl, he, _⟩
      · rw [List.append_nil, show layL [] x = [⟨1, 0, 0, [x]⟩] from rfl, joinL_snoc]
      · rw [show layL [e] x = [e] ++ [⟨1, 0, 0, [x]⟩] from layL_other [] e x he, ← List.append_assoc]
        exact (joinL_snoc _ _).symm
    · split
      · refine ⟨?_, rfl, good_snoc hg (by simp)⟩
        show joinL (A ++ (K ++ [⟨2, 0, 0, []⟩])) = joinL (A ++ J ++ (K' ++ [⟨2, 0, 0, []⟩]))
        rw [← List.append_assoc, ← List.append_assoc, joinL_snoc, joinL_snoc, hj]
      · split
        · exact ⟨hj, rfl, hg⟩
        · split
          · exact ⟨hj, rfl, hg⟩
          · refine ⟨?_, rfl, good_snoc hg (by simp)⟩
            show joinL (A ++ (K ++ [⟨3, x, 0, []⟩])) = joinL (A ++ J ++ (K' ++ [⟨3, x, 0, []⟩]))
            rw [← List.append_assoc, ← List.append_assoc, joinL_snoc, joinL_snoc, hj]
  have hn : joinL (A ++ J) = joinL (A ++ J ++ []) := by simp
  have hev : (eventE D).kind = 1 → (eventE D).bytes ≠ [] := by
    unfold eventE badE
    split
    · simp
    · split <;> simp
  unfold takeD
  split
  · exact hc J [] hn h (.inl rfl)
  · split
    · exact ⟨(hs ⟨4, D.verb, x, []⟩ (by simp)).1, rfl, (hs ⟨4, D.verb, x, []⟩ (by simp)).2⟩
    · split
      · split
        · exact ⟨hn, rfl, h⟩
        · exact ⟨hn, rfl, h⟩
      · split
        · unfold markedD
          split
          · exact ⟨hn, rfl, h⟩
          · split
            · exact ⟨(hs (eventE D) hev).1, rfl, (hs (eventE D) hev).2⟩
            · exact hc (J ++ [badE D]) ([] ++ [badE D]) (hs (badE D) (by simp [badE])).1 (hs (badE D) (by simp [badE])).2 (.inr ⟨badE D, rfl, by simp [badE], rfl⟩)
        · split
          · exact ⟨hn, rfl, h⟩
          · exact ⟨(hl x).1, rfl, (hl x).2⟩
theorem join_pre (A B C : List Ev) (h : joinL A = joinL B) : joinL (A ++ C) = joinL (B ++ C) := by rw [joinL_append, joinL_append, h]
/-- All bytes behind events, and behind none. -/
theorem fold_join (A : List Ev) : ∀ (L : List Int) (D : Dec) (J J' : List Ev), Good J → Good J' → joinL J = joinL (A ++ J') → joinL (foldF (D, J) L).2 = joinL (A ++ (foldF (D, J') L).2) ∧ (foldF (D, J) L).1 = (foldF (D, J') L).1 ∧ Good (foldF (D, J) L).2 ∧ Good (foldF (D, J') L).2 := by
  intro L
  induction L with
  | nil => intro D J J' h1 h2 h3; exact ⟨h3, rfl, h1, h2⟩
  | cons x L ih =>
    intro D J J' h1 h2 h3
    obtain ⟨a1, a2, a3⟩ := take_join D [] J x h1
    obtain ⟨b1, b2, b3⟩ := take_join D A J' x h2
    rw [foldF_cons, foldF_cons]
    simp only [List.nil_append] at a1
    have hj : joinL (takeD D J x).2 = joinL (A ++ (takeD D J' x).2) := by rw [a1, b1, join_pre _ _ _ h3]
    have he : takeD D J' x = ((takeD D J x).1, (takeD D J' x).2) := by rw [a2, ← b2]
    rw [show takeD D J x = ((takeD D J x).1, (takeD D J x).2) from rfl, he]
    exact ih _ _ _ a3 b3 hj
/-- What parts are: the bytes so far, at once. -/
def PartsOk (D : Dec) (J : List Ev) (X : List Int) : Prop := D = (feedD dec0 X).1 ∧ joinL J = joinL (feedD dec0 X).2
theorem good_nil : Good [] := fun e he => by simp at he
theorem feed_good (D : Dec) (L : List Int) : Good (feedD D L).2 := (fold_join [] L D [] [] good_nil good_nil rfl).2.2.1
theorem parts_next {D : Dec} {J : List Ev} {X Y : List Int} (h : PartsOk D J X) : PartsOk (feedD D Y).1 (J ++ (feedD D Y).2) (X ++ Y) := by
  obtain ⟨rfl, h2⟩ := h
  have := fold_join (feedD dec0 X).2 Y (feedD dec0 X).1 (feedD dec0 X).2 [] (feed_good _ _) good_nil (by simp)
  have hx : feedD dec0 (X ++ Y) = foldF ((feedD dec0 X).1, (feedD dec0 X).2) Y := by rw [feedD_fold, foldF_append]; rfl
  refine ⟨by rw [hx, this.2.1]; rfl, ?_⟩
  rw [hx, this.1]
  exact join_pre _ _ _ h2
/-- How many bytes are pending. -/
def pend (D : Dec) : Nat := if D.state = 3 ∨ D.state = 4 then D.bytes.length else 0
theorem lay_tot (L : List Ev) (x : Int) : totE (layL L x) = totE L + 1 := by rw [layL_eq, (addL_tot _ _).1]; rfl
theorem keep_len (D : Dec) (x : Int) : (keepD D x).bytes.length ≤ D.bytes.length + 1 ∧ (keepD D x).state = D.state := by
  unfold keepD
  split
  · exact ⟨by simp, rfl⟩
  · split
    · exact ⟨by simp, rfl⟩
    · exact ⟨by simp, rfl⟩
theorem pend_not {D : Dec} (h : D.state ≠ 3 ∧ D.state ≠ 4) : pend D = 0 := by unfold pend; rw [if_neg (by omega)]
theorem pend_in {D : Dec} (h : D.state = 3 ∨ D.state = 4) : pend D = D.bytes.length := by unfold pend; rw [if_pos h]
theorem command_pot (D : Dec) (K : List Ev) (x : Int) : totE (commandD D K x).2 + pend (commandD D K x).1 ≤ totE K + 1 := by
  unfold commandD
  split
  · rw [lay_tot, pend_not (by simp)]
    omega
  · split
    · rw [totE_snoc, pend_not (by simp)]; simp
    · split
      · simp [pend]
      · split
        · rw [pend_not (by simp)]; simp
        · rw [totE_snoc, pend_not (by simp)]; simp
theorem take_pot (D : Dec) (J : List Ev) (x : Int) : totE (takeD D J x).2 + pend (takeD D J x).1 ≤ totE J + pend D + 1 := by
  unfold takeD
  split
  · have := command_pot D J x; omega
  · split
    · rw [totE_snoc, pend_not (by simp)]
      show totE J + 0 + 0 ≤ _
      omega
    · split
      · next h =>
        split
        · rw [pend_in (.inr rfl), pend_in (.inl h)]
          show totE J + D.bytes.length ≤ _
          omega
        · have := keep_len D x
          rw [pend_in (D := keepD D x) (by rw [this.2]; exact .inl h), pend_in (.inl h)]
          have := this.1
          show totE J + _ ≤ _
          omega
      · split
        · next h =>
          unfold markedD
          split
          · have := keep_len { D with state := 3 } x
            rw [pend_in (D := keepD { D with state := 3 } x) (by rw [this.2]; exact .inl rfl), pend_in (.inr h)]
            have h1 : ({ D with state := 3 } : Dec).bytes.length = D.bytes.length := rfl
            have := this.1
            show totE J + _ ≤ _
            omega
          · split
            · rw [totE_snoc, pend_not (by simp), pend_in (.inr h)]
              have : (eventE D).bytes.length ≤ D.bytes.length := by unfold eventE badE; split <;> simp
              omega
            · have := command_pot D (J ++ [badE D]) x
              rw [totE_snoc] at this
              have h2 : (badE D).bytes.length = 0 := rfl
              omega
        · split
          · rw [pend_not (by simp)]; simp; omega
          · have hp : pend D = 0 := by unfold pend; rw [if_neg (by omega)]
            rw [lay_tot]
            show totE J + 1 + pend D ≤ _
            omega
theorem fold_pot : ∀ (L : List Int) (r : Dec × List Ev), totE (foldF r L).2 + pend (foldF r L).1 ≤ totE r.2 + pend r.1 + L.length := by
  intro L
  induction L with
  | nil => intro r; exact Nat.le_refl _
  | cons x L ih =>
    intro r
    rw [foldF_cons]
    have h1 := ih (takeD r.1 r.2 x)
    have h2 := take_pot r.1 r.2 x
    simp only [List.length_cons]
    omega
theorem feed_pot (D : Dec) (L : List Int) : totE (feedD D L).2 + pend (feedD D L).1 ≤ pend D + L.length := by
  have := fold_pot L (D, [])
  simpa [totE, feedD_fold] using this
end Go.Proofs.Ytimidoaafllnkaa.Iac
