/-
  The options beside the reference's: what they tell alike.
-/
import Derived.Test.YtimidoaafllnkaaOptRefD
import Derived.Test.YtimidoaafllnkaaOptPlaysB
namespace Go.Proofs.Ytimidoaafllnkaa.Opt
open Go.RowKit Base
set_option linter.unusedVariables false

/-- The reference's states are those of the options. -/
structure Like (L : List One) (S : Nat → Nat) : Prop where
  same : ∀ ours o, o < 256 → stL L ours o = stOf S ours o
  le : Le5 S
  opt : ∀ p ∈ L, p.2.1 < 256
  one : ∀ p ∈ L, stL L p.1 p.2.1 = p.2.2
theorem stL_mem {L : List One} {ours : Bool} {o : Nat} (h : stL L ours o ≠ 0) : ∃ p ∈ L, isKey ours o p = true ∧ p.2.2 = stL L ours o := by
  unfold stL at h ⊢
  cases hf : L.find? (isKey ours o) with
  | none => rw [hf] at h; exact absurd rfl h
  | some p => exact ⟨p, List.mem_of_find?_eq_some hf, List.find?_some hf, rfl⟩
theorem Like.le5 {L : List One} {S : Nat → Nat} (h : Like L S) : ∀ ours o, stL L ours o ≤ 5 := by
  intro ours o
  by_cases h0 : stL L ours o = 0
  · omega
  · obtain ⟨p, hp, hk, he⟩ := stL_mem h0
    have ho : p.2.1 = o := by simp [isKey] at hk; exact hk.2
    have := h.opt p hp
    rw [h.same ours o (by omega)]
    exact h.le _
theorem Like.busy {L : List One} {S : Nat → Nat} (h : Like L S) : busyL L = busyB S := by
  rw [Bool.eq_iff_iff]
  constructor
  · intro hb
    unfold busyL at hb
    rw [List.any_eq_true] at hb
    obtain ⟨p, hp, h1⟩ := hb
    have h1 : 1 < p.2.2 := by simpa using h1
    have ho := h.opt p hp
    have hs := h.same p.1 p.2.1 ho
    rw [h.one p hp] at hs
    unfold busyB
    rw [Bool.or_eq_true]
    cases hb : p.1 with
    | true => rw [hb] at hs; exact .inl (bz_true ho (by simp [stOf] at hs; omega))
    | false => rw [hb] at hs; exact .inr (bz_true ho (by simp [stOf] at hs; omega))
  · intro hb
    have key : ∀ ours o, o < 256 → 1 < stOf S ours o → busyL L = true := by
      intro ours o ho h1
      have hs := h.same ours o ho
      obtain ⟨p, hp, _, he⟩ := stL_mem (L := L) (ours := ours) (o := o) (by omega)
      unfold busyL
      rw [List.any_eq_true]
      exact ⟨p, hp, by simp; omega⟩
    unfold busyB at hb
    rw [Bool.or_eq_true] at hb
    rcases hb with hb | hb
    all_goals
      unfold bz at hb
      rw [List.any_eq_true] at hb
      obtain ⟨o, ho, h1⟩ := hb
      have ho : o < 256 := by simpa using ho
      have h1 := of_decide_eq_true h1
    · exact key true o ho h1
    · exact key false o ho h1
theorem Like.onL {L : List One} {S : Nat → Nat} (h : Like L S) (ours : Bool) : onR L ours 256 = onL S ours 256 := by
  unfold onR Opt.onL
  congr 1
  apply List.filter_congr
  intro o ho
  rw [h.same ours o (by simpa using ho)]
/-- Two keys. -/
theorem isKey_eq (ours ours' : Bool) (o o' st : Nat) : isKey ours o (ours', o', st) = true ↔ ours' = ours ∧ o' = o := by simp [isKey]
theorem find_drop (L : List One) (ours : Bool) (o : Nat) (ours' : Bool) (o' : Nat) (hne : ¬ (ours' = ours ∧ o' = o)) : (dropO L ours o).find? (isKey ours' o') = L.find? (isKey ours' o') := by
  unfold dropO
  induction L with
  | nil => rfl
  | cons p L ih =>
    obtain ⟨p1, p2, p3⟩ := p
    by_cases hk : isKey ours o (p1, p2, p3) = true
    · have hn : isKey ours' o' (p1, p2, p3) = false := by
        rw [Bool.eq_false_iff]
        intro h
        rw [isKey_eq] at h hk
        exact hne ⟨by rw [← h.1, hk.1], by rw [← h.2, hk.2]⟩
      rw [List.filter_cons_of_neg (by simp [hk]), List.find?_cons_of_neg (by simp [hn])]
      exact ih
    · rw [List.filter_cons_of_pos (by simp [hk]), List.find?_cons, List.find?_cons, ih]
theorem find_none (L : List One) (ours : Bool) (o : Nat) : (dropO L ours o).find? (isKey ours o) = none := by
  rw [List.find?_eq_none]
  intro p hp
  unfold dropO at hp
  rw [List.mem_filter] at hp
  simpa using hp.2
theorem stL_set_same (L : List One) (ours : Bool) (o st : Nat) : stL (setL L ours o st) ours o = st := by
  unfold stL setL
  rw [List.find?_append, find_none]
  by_cases h : st = 0
  · subst h; simp
  · rw [if_neg h]; simp [isKey]
theorem stL_set_other (L : List One) (ours : Bool) (o st : Nat) (ours' : Bool) (o' : Nat) (hne : ¬ (ours' = ours ∧ o' = o)) : stL (setL L ours o st) ours' o' = stL L ours' o' := by
  unfold stL setL
  rw [List.find?_append, find_drop L ours o ours' o' hne]
  have : (if st = 0 then [] else [(ours, o, st)] : List One).find? (isKey ours' o') = none := by
    by_cases h : st = 0
    · rw [if_pos h]; rfl
    · rw [if_neg h, List.find?_eq_none]
      intro p hp
      simp at hp
      subst hp
      rw [Bool.not_eq_true, Bool.eq_false_iff]
      intro hk
      rw [isKey_eq] at hk
      exact hne ⟨hk.1.symm, hk.2.symm⟩
  rw [this]
  simp
def ixOf (ours : Bool) (o : Nat) : Nat := if ours then 256 + o else 768 + o
theorem stOf_upd_same (S : Nat → Nat) (ours : Bool) (o v : Nat) : stOf (upd S (ixOf ours o) v) ours o = v := by
  cases ours <;> simp [stOf, ixOf, upd]
theorem stOf_upd_other (S : Nat → Nat) (ours : Bool) (o v : Nat) (ours' : Bool) (o' : Nat) (ho : o < 256) (ho' : o' < 256) (hne : ¬ (ours' = ours ∧ o' = o)) : stOf (upd S (ixOf ours o) v) ours' o' = stOf S ours' o' := by
  cases ours <;> cases ours' <;> simp [stOf, ixOf, upd] at hne ⊢ <;> omega
theorem Like.set {L : List One} {S : Nat → Nat} (h : Like L S) (ours : Bool) (o v : Nat) (ho : o < 256) (hv : v ≤ 5) : Like (setL L ours o v) (upd S (ixOf ours o) v) := by
  have mem : ∀ p ∈ setL L ours o v, (p ∈ L ∧ ¬ (p.1 = ours ∧ p.2.1 = o)) ∨ p = (ours, o, v) := by
    intro p hp
    unfold setL at hp
    rw [List.mem_append] at hp
    rcases hp with hp | hp
    · unfold dropO at hp
      rw [List.mem_filter] at hp
      refine .inl ⟨hp.1, fun hk => ?_⟩
      have := hp.2
      simp [isKey, hk.1, hk.2] at this
    · by_cases hz : v = 0
      · rw [if_pos hz] at hp; cases hp
      · rw [if_neg hz] at hp; simp at hp; exact .inr hp
  refine ⟨fun ours' o' ho' => ?_, h.le.upd _ _ hv, fun p hp => ?_, fun p hp => ?_⟩
  · by_cases hk : ours' = ours ∧ o' = o
    · obtain ⟨rfl, rfl⟩ := hk
      rw [stL_set_same, stOf_upd_same]
    · rw [stL_set_other L ours o v ours' o' hk, stOf_upd_other S ours o v ours' o' ho ho' hk]
      exact h.same ours' o' ho'
  · rcases mem p hp with hm | rfl
    · exact h.opt p hm.1
    · exact ho
  · rcases mem p hp with hm | rfl
    · rw [stL_set_other L ours o v p.1 p.2.1 hm.2]
      exact h.one p hm.1
    · exact stL_set_same L ours o v
theorem Like.nil : Like [] a0 := ⟨(fun ours o _ => by cases ours <;> rfl), (fun _ => by unfold a0; omega), (fun _ h => by cases h), (fun _ h => by cases h)⟩
theorem setL_le (L : List One) (ours : Bool) (o v : Nat) : (setL L ours o v).length ≤ L.length + 1 := by
  unfold setL
  rw [List.length_append]
  have := List.length_filter_le (fun p => !isKey ours o p) L
  unfold dropO
  split
  · simp; omega
  · simp; omega
/-- A verb, to both. -/
theorem Like.got {L : List One} {S : Nat → Nat} (h : Like L S) (A B : List Int) (hA : IsBytes A) (hB : IsBytes B) (c : Int) (o : Nat) (ho : o < 256) :
    Like (rgotR A B L c o).1 (gotS (mayM A B) S c o).1 ∧ (rgotR A B L c o).2 = (gotS (mayM A B) S c o).2 ∧ (rgotR A B L c o).1.length ≤ L.length + 1 := by
  have m1 := mayM_any A B hA hB true o ho
  have m2 := mayM_any A B hA hB false o ho
  have s1 := h.same true o ho
  have s2 := h.same false o ho
  simp only [if_true, Bool.false_eq_true, if_false] at m1 m2
  unfold rgotR gotS
  rw [← m1, ← m2, s1, s2]
  simp only [stOf, if_true, Bool.false_eq_true, if_false]
  split
  · exact ⟨h.set false o _ ho (onS_state _ _ (h.le _)), rfl, setL_le _ _ _ _⟩
  · split
    · exact ⟨h.set false o _ ho (offS_state _), rfl, setL_le _ _ _ _⟩
    · split
      · exact ⟨h.set true o _ ho (onS_state _ _ (h.le _)), rfl, setL_le _ _ _ _⟩
      · split
        · exact ⟨h.set true o _ ho (offS_state _), rfl, setL_le _ _ _ _⟩
        · exact ⟨h, rfl, by simp⟩
theorem want_err (s : Nat) : ((wantOnS s).2.2 = 5 → (wantOnS s).1 = s ∧ (wantOnS s).2.1 = 0) ∧ ((wantOnS s).2.2 = 5 ∨ (wantOnS s).2.2 = 0) ∧ ((wantOffS s).2.2 = 5 → (wantOffS s).1 = s ∧ (wantOffS s).2.1 = 0) ∧ ((wantOffS s).2.2 = 5 ∨ (wantOffS s).2.2 = 0) := by
  unfold wantOnS wantOffS
  refine ⟨?_, ?_, ?_, ?_⟩ <;> split <;> simp
theorem Like.wantO {L : List One} {S : Nat → Nat} (h : Like L S) (ours : Bool) (o : Nat) (ho : o < 256) (p : Nat × Nat × Nat) (hp : p.1 ≤ 5) (h5 : p.2.2 = 5 → p.1 = stOf S ours o ∧ p.2.1 = 0) (h0 : p.2.2 = 5 ∨ p.2.2 = 0) :
    Like (wantO L ours o p).1 (upd S (ixOf ours o) p.1) ∧ (wantO L ours o p).2.1 = sayL ours p.2.1 o ∧ (wantO L ours o p).2.2 = p.2.2 ∧ (wantO L ours o p).1.length ≤ L.length + 1 := by
  unfold Opt.wantO
  by_cases h' : p.2.2 = 5
  · rw [if_pos h']
    obtain ⟨e1, e2⟩ := h5 h'
    refine ⟨?_, by simp [sayL, e2], h'.symm, by simp⟩
    rw [upd_same S (ixOf ours o) p.1 (by rw [e1]; rfl)]
    exact h
  · rw [if_neg h']
    exact ⟨h.set ours o _ ho hp, rfl, (by show 0 = p.2.2; omega), setL_le _ _ _ _⟩
/-- A wish, of both. -/
theorem Like.want {L : List One} {S : Nat → Nat} (h : Like L S) (c : Int) (o : Nat) (ho : o < 256) :
    Like (rwantR L c o).1 (wantS S c o).1 ∧ (rwantR L c o).2 = (wantS S c o).2 ∧ (rwantR L c o).1.length ≤ L.length + 1 := by
  have s1 := h.same true o ho
  have s2 := h.same false o ho
  have k : ∀ (ours : Bool) (p : Nat × Nat × Nat), p.1 ≤ 5 → (p.2.2 = 5 → p.1 = stOf S ours o ∧ p.2.1 = 0) → (p.2.2 = 5 ∨ p.2.2 = 0) →
      Like (Opt.wantO L ours o p).1 (upd S (ixOf ours o) p.1) ∧ (Opt.wantO L ours o p).2 = (sayL ours p.2.1 o, p.2.2) ∧ (Opt.wantO L ours o p).1.length ≤ L.length + 1 := fun ours p hp h5 h0 => by
    obtain ⟨a, b, c, d⟩ := h.wantO ours o ho p hp h5 h0
    exact ⟨a, Prod.ext b c, d⟩
  unfold rwantR wantS
  rw [s1, s2]
  have e1 := want_err (stOf S true o)
  have e2 := want_err (stOf S false o)
  split
  · exact k true (wantOnS (stOf S true o)) (wantOnS_state _ (h.le _)) e1.1 e1.2.1
  · split
    · exact k true (wantOffS (stOf S true o)) (wantOffS_state _ (h.le _)) e1.2.2.1 e1.2.2.2
    · split
      · exact k false (wantOnS (stOf S false o)) (wantOnS_state _ (h.le _)) e2.1 e2.2.1
      · split
        · exact k false (wantOffS (stOf S false o)) (wantOffS_state _ (h.le _)) e2.2.2.1 e2.2.2.2
        · exact ⟨h, rfl, by simp⟩
end Go.Proofs.Ytimidoaafllnkaa.Opt
