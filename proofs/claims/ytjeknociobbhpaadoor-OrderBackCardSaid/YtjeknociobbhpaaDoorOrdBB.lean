/-
  What is written is parsed as it, and what is parsed may be written (but for its places): plainly.
-/
import Derived.Test.YtjeknociobbhpaaDoorOrdBA
import Derived.Test.YtjeknociobbhpaaDoorOrdT
namespace Go.Proofs.YtjeknociobbhpaaDoor.Ord
open Go.RowKit Base
set_option linter.unusedVariables false
set_option linter.unusedSimpArgs false

theorem joinStep_nil (out : List Or) (o : Or) (h : joinStep [] o = []) : joinStep out o = out := by
  have hc : o.kind = 0 ∧ o.data = [] := Classical.byContradiction fun hn => by
    unfold joinStep at h
    rw [if_neg hn] at h
    simp at h
  unfold joinStep
  rw [if_pos hc]
theorem joinStep_one (out : List Or) (o : Or) (h : joinStep [] o ≠ []) : joinStep [] o = [o] := by
  have hc : ¬ (o.kind = 0 ∧ o.data = []) := fun hc => h (by unfold joinStep; rw [if_pos hc])
  unfold joinStep
  rw [if_neg hc]
  rfl
theorem joinO_snoc (A : List Or) (o : Or) : joinO (A ++ [o]) = joinStep (joinO A) o := by
  unfold joinO
  rw [List.foldl_append]
  rfl
theorem parse_nil : parseL [] ([] : List Int).length.succ 0 = ([], 0, none) := rfl
theorem parse_full (L : List Int) (os : List Or) (n : Nat) (h : parseL L (L.length + 1) 0 = (os, n, none)) : Nm os ∧ joinO os = os := by
  have t : Tr L 0 os n none := by
    have t := Tr.of L (L.length + 1) 0 (by omega)
    rw [h] at t
    exact t
  refine ⟨t.nm, ?_⟩
  have := fold_nm os [] t.nm (fun p hp => by simp at hp)
  simpa [joinO] using this
/-- May be written: by check, and an SF's byte has six bits. -/
structure WOk (o : Or) (n : Int) : Prop where
  ck : chkO o n = 0
  sf : o.kind = 29 → o.byte < 64
  b0 : 0 ≤ o.byte
theorem write_back_rev (n : Int) : ∀ (r : List Or), (∀ o ∈ r, WOk o n) → parseL (wBytes r.reverse n) ((wBytes r.reverse n).length + 1) 0 = (joinO r.reverse, (wBytes r.reverse n).length, none)
  | [], _ => rfl
  | o :: r, h => by
    have h1 := write_back_rev n r fun p hp => h p (by simp [hp])
    have ho := h o (by simp)
    have h2 := one_back o n ho.ck ho.sf ho.b0
    have hw : wBytes (o :: r).reverse n = wBytes r.reverse n ++ encO o n := by simp [wBytes]
    rw [hw]
    have h3 := parse_two (wBytes r.reverse n) (encO o n) (joinO r.reverse) (joinO [o]) (encO o n).length none h1 h2
    rw [h3, List.length_append, List.reverse_cons]
    have e1 : joinO [o] = joinStep [] o := rfl
    have e2 := (parse_full _ _ _ h1).2
    congr 1
    rw [joinO_snoc, e1]
    by_cases hn : joinStep [] o = []
    · rw [hn, List.append_nil, e2, joinStep_nil _ _ hn]
    · rw [joinStep_one [] o hn, joinO_snoc, e2]
theorem write_back (n : Int) (os : List Or) (h : ∀ o ∈ os, WOk o n) : parseL (wBytes os n) ((wBytes os n).length + 1) 0 = (joinO os, (wBytes os n).length, none) := by
  have := write_back_rev n os.reverse fun o ho => h o (by simpa using ho)
  rwa [List.reverse_reverse] at this
/-! ### What is parsed -/
structure Prsd (o : Or) (n : Int) : Prop where
  ck : chkO o n = 0 ∨ chkO o n = 32
  sf : o.kind = 29 → o.byte < 64
  b0 : 0 ≤ o.byte
  b1 : o.byte ≤ 255
  a0 : 0 ≤ o.addr
  a1 : o.addr ≤ 65535
  ps : o.pairs.length ≤ 255
theorem pairsM_fit {L : List Int} {k : Int} : ∀ (m : Nat) {i l : Nat} {ps : List (Int × Int)}, pairsM L k m i = .ok ps l → ps.length = m ∧ fitM k ps = true
  | 0, i, l, ps, h => by
    injection h with h _
    subst h
    exact ⟨rfl, rfl⟩
  | m + 1, i, l, ps, h => by
    obtain ⟨a, j, h1, h2⟩ := andThen_ok h
    obtain ⟨b, q, h3, h4⟩ := andThen_ok h2
    have e1 := pairsM_fit m h3
    injection h4 with h4 _
    subst h4
    obtain ⟨t, j1, g1, g2⟩ := andThen_ok h1
    obtain ⟨v, j2, g3, g4⟩ := andThen_ok g2
    split at g4
    · next hc =>
      injection g4 with g4 _
      subst g4
      refine ⟨by simp [e1.1], ?_⟩
      unfold fitM at e1 ⊢
      rw [List.all_cons, e1.2, Bool.and_true]
      exact hc
    · cases g4
theorem chk_two {o : Or} {n : Int} (kn : known o.kind = true) (bl : belM o.kind o.addr o.byte o.ge o.pairs.length o.data.length = true) (mn : manyM o.kind o.pairs.length = false) (sh : shnM o.kind o.byte o.ge o.data = true) (ft : fitM o.kind o.pairs = true) : chkO o n = 0 ∨ chkO o n = 32 := by
  unfold chkO
  rw [if_neg (by simp [kn]), if_neg (by simp [bl]), if_neg (by simp [mn])]
  by_cases hp : plcM o.kind o.addr n = false
  · rw [if_pos hp]; exact .inr rfl
  · rw [if_neg hp, if_neg (by simp [sh]), if_neg (by simp [ft])]; exact .inl rfl
theorem nx_bd {L : List Int} (hL : ∀ x ∈ L, 0 ≤ x ∧ x < 256) {i l : Nat} {c : Int} (h : nx L i = .ok c l) : 0 ≤ c ∧ c < 256 := by
  have e := nx_ok h
  rw [e.1, List.getElem?_eq_getElem e.2.2]
  exact hL _ (List.getElem_mem e.2.2)
theorem dec_bd {a b : Int} (h1 : 0 ≤ a ∧ a < 256) (h2 : 0 ≤ b ∧ b < 256) : 0 ≤ dec a b ∧ dec a b ≤ 65535 := by
  unfold dec
  split <;> omega
theorem place_bd {L : List Int} (hL : ∀ x ∈ L, 0 ≤ x ∧ x < 256) {i l : Nat} {x : Int} (h : placeM L i = .ok x l) : 0 ≤ x ∧ x ≤ 65535 := by
  obtain ⟨a, j, h1, h2⟩ := andThen_ok h
  obtain ⟨b, k, h3, h4⟩ := andThen_ok h2
  injection h4 with h4 _
  subst h4
  exact dec_bd (nx_bd hL h1) (nx_bd hL h3)
theorem shown_val {b : Int} {ge : Bool} {j l : Nat} {p : Int × Bool} (h : shownM b ge j = .ok p l) : p = (b, ge) ∧ standsB b ge = true := by
  unfold shownM at h
  split at h
  · next hs => injection h with h _; exact ⟨h.symm, hs⟩
  · cases h
theorem orderM_prsd {L : List Int} (hL : ∀ x ∈ L, 0 ≤ x ∧ x < 256) {i l : Nat} {o : Or} (n : Int) (h : orderM L i = .ok o l) : Prsd o n := by
  unfold orderM at h
  split at h
  · injection h with h _
    subst h
    refine ⟨chk_two (by rfl) (by simp [belM]) (by rfl) ?_ rfl, by simp, by simp, by simp, by simp, by simp, by simp⟩
    show (dataL L i).all plain = true
    unfold dataL
    exact List.all_takeWhile
  · generalize L[i]?.getD 0 = k at h
    unfold ordK at h
    split at h
    · next hk =>
      injection h with h _
      subst h
      refine ⟨chk_two (by rcases hk with rfl | rfl <;> rfl) (by simp [belM]) (by rcases hk with rfl | rfl <;> rfl) (by rcases hk with rfl | rfl <;> rfl) rfl, by rcases hk with rfl | rfl <;> simp, by simp, by simp, by simp, by simp, by simp⟩
    · split at h
      · next hk =>
        obtain ⟨x, m, h1, h2⟩ := andThen_ok h
        injection h2 with h2 _
        subst h2
        have hx := place_bd hL h1
        refine ⟨chk_two (by rcases hk with rfl | rfl <;> rfl) (by rcases hk with rfl | rfl <;> simp [belM, hasA]) (by rcases hk with rfl | rfl <;> rfl) (by rcases hk with rfl | rfl <;> rfl) rfl, by rcases hk with rfl | rfl <;> simp, by simp, by simp, hx.1, hx.2, by simp⟩
      · split at h
        · next hk =>
          subst hk
          obtain ⟨c, m, h1, h2⟩ := andThen_ok h
          obtain ⟨p, q, h3, h4⟩ := andThen_ok h2
          injection h4 with h4 _
          subst h4
          obtain ⟨rfl, hs⟩ := shown_val h3
          have hc := nx_bd hL h1
          refine ⟨chk_two (by rfl) (by simp [belM, hasB]) (by rfl) (by simpa [shnM] using hs) rfl, by simp, hc.1, by simp only; omega, by simp, by simp, by simp⟩
        · split at h
          · next hk =>
            subst hk
            obtain ⟨x, m, h1, h2⟩ := andThen_ok h
            obtain ⟨p, q, h3, h4⟩ := andThen_ok h2
            injection h4 with h4 _
            subst h4
            have hx := place_bd hL h1
            obtain ⟨b, j, g1, g2⟩ := andThen_ok h3
            have hb := nx_bd hL g1
            split at g2
            · obtain ⟨c, j2, g3, g4⟩ := andThen_ok g2
              obtain ⟨rfl, hs⟩ := shown_val g4
              have hc := nx_bd hL g3
              exact ⟨chk_two (by rfl) (by simp [belM, hasA, hasB]) (by rfl) (by simpa [shnM] using hs) rfl, by simp, hc.1, by simp only; omega, hx.1, hx.2, by simp⟩
            · obtain ⟨rfl, hs⟩ := shown_val g2
              exact ⟨chk_two (by rfl) (by simp [belM, hasA, hasB]) (by rfl) (by simpa [shnM] using hs) rfl, by simp, hb.1, by simp only; omega, hx.1, hx.2, by simp⟩
          · split at h
            · next hk =>
              subst hk
              obtain ⟨c, m, h1, h2⟩ := andThen_ok h
              injection h2 with h2 _
              subst h2
              have hc := nx_bd hL h1
              exact ⟨chk_two (by rfl) (by simp [belM, hasB]) (by rfl) (by simp [shnM]; omega) rfl, fun _ => by simp only; omega, by simp only; omega, by simp only; omega, by simp, by simp, by simp⟩
            · split at h
              · next hk =>
                subst hk
                obtain ⟨c, m, h1, h2⟩ := andThen_ok h
                obtain ⟨hl, hf⟩ := pairsM_fit 1 h1
                injection h2 with h2 _
                subst h2
                exact ⟨chk_two (by rfl) (by simp [belM, hasP]) (by simp [manyM, hl]) (by simp [shnM]) hf, by simp, by simp, by simp, by simp, by simp, by simp only; omega⟩
              · split at h
                · next hk =>
                  obtain ⟨c, m, h1, h2⟩ := andThen_ok h
                  obtain ⟨ps, q, h3, h4⟩ := andThen_ok h2
                  obtain ⟨hl, hf⟩ := pairsM_fit _ h3
                  have hc := nx_bd hL h1
                  injection h4 with h4 _
                  subst h4
                  have h255 : ps.length ≤ 255 := by omega
                  refine ⟨chk_two (by rcases hk with rfl | rfl <;> rfl) (by rcases hk with rfl | rfl <;> simp [belM, hasP]) ?_ (by rcases hk with rfl | rfl <;> simp [shnM]) hf, by rcases hk with rfl | rfl <;> simp, by simp, by simp, by simp, by simp, h255⟩
                  rcases hk with rfl | rfl <;> simp [manyM] <;> omega
                · cases h
theorem Tr.prsd {L : List Int} (hL : ∀ x ∈ L, 0 ≤ x ∧ x < 256) (m : Int) {i n : Nat} {os : List Or} {g : Option Flt} (t : Tr L i os n g) : ∀ o ∈ os, Prsd o m := by
  induction t with
  | stop h => simp
  | bad h e => simp
  | @step i j n o os g h e t ih =>
    intro p hp
    rcases List.mem_cons.1 hp with rfl | hp
    · exact orderM_prsd hL m e
    · exact ih p hp
theorem parse_prsd (L : List Int) (hL : ∀ x ∈ L, 0 ≤ x ∧ x < 256) (m : Int) (os : List Or) (n : Nat) (g : Option Flt) (h : parseL L (L.length + 1) 0 = (os, n, g)) : ∀ o ∈ os, Prsd o m := by
  have t := Tr.of L (L.length + 1) 0 (by omega)
  rw [h] at t
  exact t.prsd hL m
theorem wErr_two (n : Int) : ∀ (os : List Or), (∀ o ∈ os, Prsd o n) → wErr os n = 0 ∨ wErr os n = 32
  | [], _ => .inl rfl
  | o :: os, h => by
    unfold wErr
    have ho := (h o (by simp)).ck
    by_cases h0 : chkO o n = 0
    · rw [if_pos h0]; exact wErr_two n os fun p hp => h p (by simp [hp])
    · rw [if_neg h0]
      rcases ho with ho | ho
      · exact absurd ho h0
      · exact .inr ho
theorem wErr_all (n : Int) : ∀ (os : List Or), wErr os n = 0 → ∀ o ∈ os, chkO o n = 0
  | [], _ => by simp
  | o :: os, h => by
    unfold wErr at h
    by_cases h0 : chkO o n = 0
    · rw [if_pos h0] at h
      intro p hp
      rcases List.mem_cons.1 hp with rfl | hp
      · exact h0
      · exact wErr_all n os h p hp
    · rw [if_neg h0] at h
      exact absurd h h0
end Go.Proofs.YtjeknociobbhpaaDoor.Ord
