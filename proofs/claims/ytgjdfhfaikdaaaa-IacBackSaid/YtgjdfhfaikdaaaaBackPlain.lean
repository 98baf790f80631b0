/-
  Events that are written, and told again: plainly.
-/
import Derived.Test.YtgjdfhfaikdaaaaCutPlain
namespace Go.Proofs.Ytgjdfhfaikdaaaa.Iac
open Go.RowKit Base
set_option linter.unusedVariables false

/-- An event that may be, with just what belongs to it. -/
inductive Plain : Ev → Prop
  | data (X : List Int) : Plain ⟨1, 0, 0, X⟩
  | fin : Plain ⟨2, 0, 0, []⟩
  | cmd (c : Int) : c < 250 → c ≠ 239 → Plain ⟨3, c, 0, []⟩
  | verb (c o : Int) : 251 ≤ c → c ≤ 254 → Plain ⟨4, c, o, []⟩
  | sub (o : Int) (X : List Int) : X.length ≤ 256 → Plain ⟨5, 0, o, X⟩
theorem fold_two_mark (D : Dec) (J : List Ev) (c : Int) (h : D.state = 0) : foldF (D, J) [255, c] = commandD { D with state := 1 } J c := by
  rw [foldF_two, take0m D J h]
  exact take1 { D with state := 1 } J c rfl
theorem fold_cmd (D : Dec) (J : List Ev) (c : Int) (h : D.state = 0) (h1 : c < 250) (h2 : c ≠ 239) : foldF (D, J) [255, c] = (D, J ++ [⟨3, c, 0, []⟩]) := by
  rw [fold_two_mark D J c h]
  unfold commandD
  rw [if_neg (by omega), if_neg h2, if_neg (by omega), if_neg (by omega)]
  show ({ D with state := 0 }, _) = _
  rw [dec_state D 0 h]
theorem fold_verb (D : Dec) (J : List Ev) (c o : Int) (h : D.state = 0) (h1 : 251 ≤ c) (h2 : c ≤ 254) : foldF (D, J) [255, c, o] = ({ D with verb := c }, J ++ [⟨4, c, o, []⟩]) := by
  have h3 : foldF (D, J) [255, c] = ({ D with state := 2, verb := c }, J) := by
    rw [fold_two_mark D J c h]
    unfold commandD
    rw [if_neg (by omega), if_neg (by omega), if_neg (by omega), if_pos ⟨h1, h2⟩]
  rw [show [255, c, o] = [255, c] ++ [o] from rfl, foldF_append, h3]
  show takeD { D with state := 2, verb := c } J o = _
  unfold takeD
  rw [if_neg (by simp), if_pos rfl]
  show (({ D with state := 0, verb := c } : Dec), _) = _
  have : ({ D with state := 0, verb := c } : Dec) = { D with verb := c } := by cases D; simp at h; simp [h]
  rw [this]
/-- What is written of an event, as it is told. -/
theorem fold_plain (D : Dec) (J : List Ev) (e : Ev) (h : D.state = 0) (he : Plain e) : (foldF (D, J) (writtenL e)).1.state = 0 ∧ (foldF (D, J) (writtenL e)).2 = if e.kind = 1 then e.bytes.foldl layL J else J ++ [e] := by
  cases he with
  | data X => rw [show writtenL ⟨1, 0, 0, X⟩ = escL X from rfl, fold_data D h]; exact ⟨h, rfl⟩
  | fin => rw [show writtenL ⟨2, 0, 0, []⟩ = [255, 239] from rfl, fold_end D J h]; exact ⟨h, rfl⟩
  | cmd c h1 h2 => rw [show writtenL ⟨3, c, 0, []⟩ = [255, c] from rfl, fold_cmd D J c h h1 h2]; exact ⟨h, rfl⟩
  | verb c o h1 h2 => rw [show writtenL ⟨4, c, o, []⟩ = [255, c, o] from rfl, fold_verb D J c o h h1 h2]; exact ⟨h, rfl⟩
  | sub o X hX =>
    rw [show writtenL ⟨5, 0, o, X⟩ = tellL o X from rfl, fold_tell D J o X h]
    refine ⟨rfl, ?_⟩
    show J ++ [subE o X] = J ++ [⟨5, 0, o, X⟩]
    unfold subE
    rw [if_neg (by omega), List.take_of_length_le hX]
theorem lay_join (A : List Ev) : ∀ (X : List Int) (J : List Ev), Good J → joinL J = joinL A → joinL (X.foldl layL J) = joinL (A ++ [⟨1, 0, 0, X⟩]) ∧ Good (X.foldl layL J) := by
  intro X
  induction X generalizing A with
  | nil => intro J h hj; exact ⟨by rw [joinL_snoc, List.foldl_nil, hj]; unfold joinE; rw [if_pos ⟨rfl, rfl⟩], h⟩
  | cons x X ih =>
    intro J h hj
    rw [List.foldl_cons]
    obtain ⟨h1, h2⟩ := join_lay [] J x h
    simp only [List.nil_append] at h1
    have h3 : joinL (layL J x) = joinL (A ++ [⟨1, 0, 0, [x]⟩]) := by rw [h1]; exact join_pre _ _ _ hj
    obtain ⟨h4, h5⟩ := ih (A ++ [⟨1, 0, 0, [x]⟩]) (layL J x) h2 h3
    refine ⟨?_, h5⟩
    rw [h4, joinL_snoc, joinL_snoc, joinL_snoc]
    unfold joinE
    by_cases hX : X = []
    · subst hX
      simp
    · rw [if_neg (by simp [hX]), if_neg (by simp), if_neg (by simp), addL_addL _ _ _ rfl rfl]
      rfl
theorem back_joined : ∀ (L : List Ev) (D : Dec) (J A : List Ev), D.state = 0 → Good J → joinL J = joinL A → (∀ e ∈ L, Plain e) → (foldF (D, J) (writeL L)).1.state = 0 ∧ joinL (foldF (D, J) (writeL L)).2 = joinL (A ++ L) := by
  intro L
  induction L with
  | nil => intro D J A h _ hj _; exact ⟨h, by simpa [writeL, foldF] using hj⟩
  | cons e L ih =>
    intro D J A h hg hj hp
    have hw : writeL (e :: L) = writtenL e ++ writeL L := by simp [writeL]
    rw [hw, foldF_append]
    obtain ⟨h1, h2⟩ := fold_plain D J e h (hp e (by simp))
    have h3 : joinL (foldF (D, J) (writtenL e)).2 = joinL (A ++ [e]) ∧ Good (foldF (D, J) (writtenL e)).2 := by
      rw [h2]
      by_cases hk : e.kind = 1
      · rw [if_pos hk]
        have he : e = ⟨1, 0, 0, e.bytes⟩ := by
          have := hp e (by simp)
          cases this <;> simp at hk ⊢
        have := lay_join A e.bytes J hg hj
        rw [← he] at this
        exact this
      · rw [if_neg hk]
        exact ⟨join_pre _ _ _ hj, good_snoc hg fun h' => absurd h' hk⟩
    have := ih (foldF (D, J) (writtenL e)).1 (foldF (D, J) (writtenL e)).2 (A ++ [e]) h1 h3.2 h3.1 fun f hf => hp f (by simp [hf])
    rw [show A ++ e :: L = A ++ [e] ++ L by simp]
    exact this
theorem back_events (L : List Ev) (hp : ∀ e ∈ L, Plain e) : (feedD dec0 (writeL L)).1.state = 0 ∧ joinL (feedD dec0 (writeL L)).2 = joinL L := by
  have := back_joined L dec0 [] [] rfl good_nil rfl hp
  rwa [List.nil_append] at this

/-! ### Bytes' events -/
/-- Events as bytes are told: plain but for long and bad ones, data not empty, nor behind data. -/
inductive Canon : List Ev → Prop
  | nil : Canon []
  | snoc (Q : List Ev) (e : Ev) : Canon Q → (Plain e ∨ e.kind = 6 ∨ e.kind = 7) → (e.kind = 1 → e.bytes ≠ [] ∧ ∀ f, Q.getLast? = some f → f.kind ≠ 1) → Canon (Q ++ [e])
theorem Canon.inv {L : List Ev} (h : Canon L) : ∀ (Q : List Ev) (e : Ev), L = Q ++ [e] → Canon Q ∧ (Plain e ∨ e.kind = 6 ∨ e.kind = 7) ∧ (e.kind = 1 → e.bytes ≠ [] ∧ ∀ f, Q.getLast? = some f → f.kind ≠ 1) := by
  cases h with
  | nil => intro Q e h; simp at h
  | snoc Q' e' h1 h2 h3 =>
    intro Q e h
    obtain ⟨rfl, h⟩ := List.append_inj' h rfl
    obtain rfl : e' = e := by simpa using h
    exact ⟨h1, h2, h3⟩
theorem canon_lay (L : List Ev) (x : Int) (h : Canon L) : Canon (layL L x) := by
  rcases List.eq_nil_or_concat L with rfl | ⟨Q, e, rfl⟩
  · exact Canon.snoc [] ⟨1, 0, 0, [x]⟩ .nil (.inl (.data _)) fun _ => ⟨by simp, by simp⟩
  · rw [List.concat_eq_append] at h ⊢
    obtain ⟨h1, h2, h3⟩ := h.inv Q e rfl
    by_cases hk : e.kind = 1
    · rw [layL_data _ _ _ hk]
      have he : e = ⟨1, 0, 0, e.bytes⟩ := by
        rcases h2 with h2 | h2 | h2
        · cases h2 <;> simp at hk ⊢
        · rw [hk] at h2; cases h2
        · rw [hk] at h2; cases h2
      refine Canon.snoc Q _ h1 (.inl ?_) fun _ => ⟨by simp, (h3 hk).2⟩
      rw [he]
      exact .data _
    · rw [layL_other _ _ _ hk]
      exact Canon.snoc _ _ h (.inl (.data _)) fun _ => ⟨by simp, fun f hf => by simp at hf; subst hf; exact hk⟩
theorem canon_snoc {L : List Ev} {e : Ev} (h : Canon L) (he : Plain e ∨ e.kind = 6 ∨ e.kind = 7) (hk : e.kind ≠ 1) : Canon (L ++ [e]) := .snoc _ _ h he fun h' => absurd h' hk
theorem canon_command (D : Dec) (K : List Ev) (x : Int) (h : Canon K) (hx : 0 ≤ x ∧ x < 256) : Canon (commandD D K x).2 ∧ ((commandD D K x).1.state = 2 → 251 ≤ (commandD D K x).1.verb ∧ (commandD D K x).1.verb ≤ 254) := by
  unfold commandD
  split
  · exact ⟨canon_lay K x h, by simp⟩
  · split
    · exact ⟨canon_snoc h (.inl .fin) (by simp), by simp⟩
    · split
      · exact ⟨h, by simp⟩
      · split
        · next h4 => exact ⟨h, fun _ => h4⟩
        · exact ⟨canon_snoc h (.inl (.cmd x (by omega) (by omega))) (by simp), by simp⟩
theorem keepD_state (D : Dec) (x : Int) : (keepD D x).state = D.state := (keep_len D x).2
/-- A decoder whose bytes are not too many, and whose verb is one. -/
def DecOk (D : Dec) : Prop := D.bytes.length ≤ 256 ∧ (D.state = 2 → 251 ≤ D.verb ∧ D.verb ≤ 254)
theorem canon_take (D : Dec) (J : List Ev) (x : Int) (h : Canon J) (hx : 0 ≤ x ∧ x < 256) (hd : DecOk D) (hs : D.state ≤ 4) : Canon (takeD D J x).2 ∧ ((takeD D J x).1.state = 2 → 251 ≤ (takeD D J x).1.verb ∧ (takeD D J x).1.verb ≤ 254) := by
  unfold takeD
  split
  · exact canon_command D J x h hx
  · split
    · next h2 => exact ⟨canon_snoc h (.inl (.verb _ _ (hd.2 h2).1 (hd.2 h2).2)) (by simp), by simp⟩
    · split
      · next h3 =>
        split
        · exact ⟨h, by simp⟩
        · refine ⟨h, fun h' => ?_⟩
          have h4 : (keepD D x).state = 2 := h'
          rw [keepD_state, h3] at h4; cases h4
      · split
        · next h4 =>
          unfold markedD
          split
          · refine ⟨h, fun h' => ?_⟩
            have h5 : (keepD { D with state := 3 } x).state = 2 := h'
            rw [keepD_state] at h5; cases h5
          · split
            · refine ⟨canon_snoc h ?_ ?_, by simp⟩
              · unfold eventE badE
                split
                · exact .inr (.inr rfl)
                · split
                  · exact .inr (.inl rfl)
                  · exact .inl (.sub _ _ hd.1)
              · unfold eventE badE
                split
                · simp
                · split <;> simp
            · exact canon_command D _ x (canon_snoc h (.inr (.inr rfl)) (by simp [badE])) hx
        · split
          · exact ⟨h, by simp⟩
          · next h0 => exact ⟨canon_lay J x h, fun h' => absurd (show D.state = 2 from h') (by assumption)⟩
theorem canon_fold : ∀ (L : List Int) (m n : Nat) (D : Dec) (J : List Ev), Fine m n (D, J) → Canon J → (D.state = 2 → 251 ≤ D.verb ∧ D.verb ≤ 254) → (∀ x ∈ L, 0 ≤ x ∧ x < 256) → Canon (foldF (D, J) L).2 := by
  intro L
  induction L with
  | nil => intro m n D J _ h _ _; exact h
  | cons x L ih =>
    intro m n D J hf h hv hb
    rw [foldF_cons]
    obtain ⟨h1, h2⟩ := canon_take D J x h (hb x (by simp)) ⟨hf.kept, hv⟩ hf.state
    exact ih _ _ _ _ (takeD_fine m n D J x hf) h1 h2 fun y hy => hb y (by simp [hy])
theorem canon_feed (L : List Int) (h : ∀ x ∈ L, 0 ≤ x ∧ x < 256) : Canon (feedD dec0 L).2 := by
  rw [feedD_fold]
  exact canon_fold L 0 0 dec0 [] ⟨by simp [dec0], by simp [dec0], by simp, by simp⟩ .nil (by simp [dec0]) h
theorem lay_new (X : List Int) (Q : List Ev) (hX : X ≠ []) (h : ∀ f, Q.getLast? = some f → f.kind ≠ 1) : X.foldl layL Q = Q ++ [⟨1, 0, 0, X⟩] := by
  cases X with
  | nil => exact absurd rfl hX
  | cons x X =>
    have h1 : layL Q x = Q ++ [⟨1, 0, 0, [x]⟩] := by
      rcases List.eq_nil_or_concat Q with rfl | ⟨R, f, rfl⟩
      · rfl
      · rw [List.concat_eq_append] at h ⊢
        exact layL_other _ _ _ (h f (by simp))
    rw [List.foldl_cons, h1]
    exact lay_data X [x] Q ⟨1, 0, 0, []⟩ rfl
theorem back_exact {L : List Ev} (h : Canon L) : (∀ e ∈ L, e.kind ≠ 6 ∧ e.kind ≠ 7) → (foldF (dec0, []) (writeL L)).1.state = 0 ∧ (foldF (dec0, []) (writeL L)).2 = L := by
  induction h with
  | nil => intro _; exact ⟨rfl, rfl⟩
  | snoc Q e hQ he hk ih =>
    intro hl
    obtain ⟨h1, h2⟩ := ih fun f hf => hl f (by simp [hf])
    have hp : Plain e := by
      have := hl e (by simp)
      rcases he with he | he | he
      · exact he
      · exact absurd he this.1
      · exact absurd he this.2
    rw [writeL_snoc, foldF_append]
    have h3 : foldF (dec0, []) (writeL Q) = ((foldF (dec0, []) (writeL Q)).1, Q) := Prod.ext rfl h2
    rw [h3]
    obtain ⟨h4, h5⟩ := fold_plain _ Q e h1 hp
    refine ⟨h4, ?_⟩
    rw [h5]
    by_cases hd : e.kind = 1
    · rw [if_pos hd, lay_new _ _ (hk hd).1 (hk hd).2]
      have : e = ⟨1, 0, 0, e.bytes⟩ := by cases hp <;> simp at hd ⊢
      rw [← this]
    · rw [if_neg hd]
theorem back_bytes (L : List Int) (h : ∀ x ∈ L, 0 ≤ x ∧ x < 256) (hl : ∀ e ∈ (feedD dec0 L).2, e.kind ≠ 6 ∧ e.kind ≠ 7) : (feedD dec0 (writeL (feedD dec0 L).2)).2 = (feedD dec0 L).2 := (back_exact (canon_feed L h) hl).2
end Go.Proofs.Ytgjdfhfaikdaaaa.Iac
