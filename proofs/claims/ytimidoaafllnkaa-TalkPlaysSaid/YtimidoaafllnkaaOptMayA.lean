/-
  The reference's May; what holds of options that only hear.
-/
import Derived.Test.YtimidoaafllnkaaOptE
import Derived.Test.YtimidoaafllnkaaOpenB
namespace Go.Proofs.Ytimidoaafllnkaa.Opt
open Go.RowKit Base
set_option linter.unusedVariables false

/-! ### The reference's May -/
def listOf (ours : Bool) (A B : List Int) : List Int := if ours then A else B
theorem any_at {L : List Int} {k : Nat} {o : Int} (hk : k < L.length) (h : L[k]? = some o) : (L.any fun x => x == o) = true := by
  rw [List.any_eq_true]
  exact ⟨o, List.mem_of_getElem? h, by simp⟩
theorem any_none {L : List Int} {o : Int} (h : ∀ k, k < L.length → L[k]? ≠ some o) : (L.any fun x => x == o) = false := by
  rw [List.any_eq_false]
  intro x hx
  obtain ⟨k, hk, rfl⟩ := List.mem_iff_getElem.1 hx
  have := h k hk
  simp only [List.getElem?_eq_getElem hk] at this
  simpa using this
set_option maxHeartbeats 1000000 in
theorem may_in (u : Value) (L : List Int) (x y z : Value) (ours : Bool) (o : Int) (w : World) (hu : (if ours then y else z) = u) (hr : RowOf .u8 w u L) (hm : L.length ≤ maxLen) :
    Calls Try.prog 102 #[.agg #[x, y, z], .bool ours, .int .u8 o] w fun e w' => e = .returned (.bool (L.any fun x => x == o)) ∧ Below w.heap.size w w' := by
  unfold maxLen at hm
  have hr := hr.below (below_alloc w (.cells #[x, y, z] 46))
  have hb := below_alloc w (.cells #[x, y, z] 46)
  obtain ⟨W, hW⟩ : ∃ W, W = w.alloc (.cells #[x, y, z] 46) := ⟨_, rfl⟩
  rw [← hW] at hr hb
  have c1 : W.cell? ⟨w.heap.size, 1, none⟩ = some y := by rw [hW]; simp [go_sem]
  have c2 : W.cell? ⟨w.heap.size, 2, none⟩ = some z := by rw [hW]; simp [go_sem]
  obtain ⟨a, cap, rfl, hrow⟩ := hr
  obtain ⟨n, hn⟩ : ∃ n, n = L.length := ⟨_, rfl⟩
  rw [← hn] at hm hu
  have HN := Lib.hid hn
  have HR := Lib.hid hrow
  have HW := Lib.hid hW.symm
  have HB := Lib.hid hb
  clear hn hrow hW hb
  cases ours
  all_goals
    simp only [if_true, if_false, Bool.false_eq_true] at hu
    subst hu
    go_enter Try.func102, Try.ntmps102
    go_wp2_with fail
    rw [HW.out]
    go_wp2_with fail
    go_loop [8] (fun i => ∃ k : Nat, k ≤ n ∧ i = .int .i64 k ∧ Hid (∀ j, j < k → L[j]? ≠ some o)) (fun i => n - (intOf i).toNat)
    case atStart => exact ⟨0, by omega, rfl, fun j hj => absurd hj (by omega)⟩
    case round =>
      obtain ⟨k, hk, rfl, hno⟩ := hrel
      by_cases hkn : k < n
      · have hkl : k < L.length := by rw [← HN.out]; exact hkn
        obtain ⟨g, off, rfl, hc⟩ := HR.out (by intro e; rw [e] at hkl; simp at hkl)
        have d := hc k hkl
        obtain ⟨v, hv⟩ : ∃ v, v = L[k]?.getD 0 := ⟨_, rfl⟩
        rw [← hv] at d
        have hv2 : L[k]? = some v := by rw [hv]; simp [hkl]
        have HV := Lib.hid hv2
        have HKL := Lib.hid hkl
        clear hv hc hkl hv2
        by_cases he : v = o
        · subst he
          go_wp2_with fail
          go_ret
          exact ⟨by rw [any_at HKL.out HV.out]; rfl, HB.out⟩
        · have ht : (v == o) = false := by simpa using he
          have HE := Lib.hid he
          clear he
          go_wp2_with fail
          go_round
          case rel =>
            refine ⟨k + 1, by omega, by go_num, fun j hj => ?_⟩
            by_cases hjk : j < k
            · exact hno.out j hjk
            · obtain rfl : j = k := by omega
              rw [HV.out]; intro e; exact HE.out (by simpa using e)
          case measure => simp [intOf]; omega
      · obtain rfl : n = k := by omega
        go_wp2_with fail
        go_ret
        exact ⟨by rw [any_none (by rw [← HN.out]; exact hno.out)]; rfl, HB.out⟩
theorem may_any (u v : Value) (A B : List Int) (x : Value) (ours : Bool) (o : Int) (w : World) (hu : RowOf .u8 w u A) (hv : RowOf .u8 w v B) (ha : A.length ≤ maxLen) (hb : B.length ≤ maxLen) :
    Calls Try.prog 102 #[.agg #[x, u, v], .bool ours, .int .u8 o] w fun e w' => e = .returned (.bool ((listOf ours A B).any fun x => x == o)) ∧ Below w.heap.size w w' := by
  cases ours with
  | true => exact may_in u A x u v true o w rfl hu ha
  | false => exact may_in v B x u v false o w rfl hv hb
/-- Which may be on, as the reference has it. -/
theorem mayM_any (A B : List Int) (hA : IsBytes A) (hB : IsBytes B) (ours : Bool) (o : Nat) (ho : o < 256) : mayM A B (if ours then o else 512 + o) = (listOf ours A B).any fun x => x == (o : Int) := by
  have e : ∀ (L : List Int) (off : Nat), IsBytes L → (L.any fun x => decide (off + o = off + x.toNat)) = L.any fun x => x == (o : Int) := by
    intro L off hL
    rw [Bool.eq_iff_iff, List.any_eq_true, List.any_eq_true]
    constructor
    · rintro ⟨x, hx, h⟩
      have := hL x hx
      simp at h
      exact ⟨x, hx, by simp; omega⟩
    · rintro ⟨x, hx, h⟩
      simp at h
      exact ⟨x, hx, by simp [h]⟩
  have none : ∀ (L : List Int) (off j : Nat), IsBytes L → (j < off ∨ off + 256 ≤ j) → (L.any fun x => decide (j = off + x.toNat)) = false := by
    intro L off j hL hj
    rw [List.any_eq_false]
    intro x hx
    have := hL x hx
    simp; omega
  cases ours with
  | true =>
    simp only [mayM, allowM, listOf, if_true]
    rw [none B 512 o hB (by omega)]
    have := e A 0 hA
    simp only [Nat.zero_add] at this
    simp [this]
  | false =>
    simp only [mayM, allowM, listOf, Bool.false_eq_true, if_false]
    rw [none A 0 (512 + o) hA (by omega), e B 512 hB]
    simp

/-! ### Options that only hear -/
/-- Each state is No, or Yes and may be on. -/
def Calm (M : Nat → Bool) (S : Nat → Nat) : Prop := ∀ o, o < 256 → (S (256 + o) = 0 ∨ S (256 + o) = 1 ∧ M o = true) ∧ (S (768 + o) = 0 ∨ S (768 + o) = 1 ∧ M (512 + o) = true)
theorem Calm.got {M : Nat → Bool} {S : Nat → Nat} (h : Calm M S) (c : Int) (o : Nat) (ho : o < 256) : Calm M (gotS M S c o).1 := by
  obtain ⟨h1, h2⟩ := h o ho
  have on : ∀ (m : Bool) (s : Nat), (s = 0 ∨ s = 1 ∧ m = true) → (onS m s).1 = 0 ∨ (onS m s).1 = 1 ∧ m = true := by
    rintro m s (rfl | ⟨rfl, rfl⟩)
    · cases m
      · exact .inl rfl
      · exact .inr ⟨rfl, rfl⟩
    · exact .inr ⟨rfl, rfl⟩
  have off : ∀ (m : Bool) (s : Nat), (s = 0 ∨ s = 1 ∧ m = true) → (offS s).1 = 0 ∨ (offS s).1 = 1 ∧ m = true := by
    rintro m s (rfl | ⟨rfl, rfl⟩)
    · exact .inl rfl
    · exact .inl rfl
  have put1 : ∀ v, (v = 0 ∨ v = 1 ∧ M o = true) → Calm M (upd S (256 + o) v) := fun v hv p hp => by
    obtain ⟨g1, g2⟩ := h p hp
    refine ⟨?_, ?_⟩
    · unfold upd
      by_cases e : p = o
      · subst e; rw [if_pos rfl]; exact hv
      · rw [if_neg (by omega)]; exact g1
    · unfold upd
      rw [if_neg (by omega)]; exact g2
  have put2 : ∀ v, (v = 0 ∨ v = 1 ∧ M (512 + o) = true) → Calm M (upd S (768 + o) v) := fun v hv p hp => by
    obtain ⟨g1, g2⟩ := h p hp
    refine ⟨?_, ?_⟩
    · unfold upd
      rw [if_neg (by omega)]; exact g1
    · unfold upd
      by_cases e : p = o
      · subst e; rw [if_pos rfl]; exact hv
      · rw [if_neg (by omega)]; exact g2
  unfold gotS
  repeat' split
  · exact put2 _ (on _ _ h2)
  · exact put2 _ (off _ _ h2)
  · exact put1 _ (on _ _ h1)
  · exact put1 _ (off _ _ h1)
  · exact h
theorem Calm.busy {M : Nat → Bool} {S : Nat → Nat} (h : Calm M S) : busyB S = false := by
  unfold busyB
  rw [bz_false (fun k hk => by rcases (h k hk).1 with h | ⟨h, _⟩ <;> omega), bz_false (fun k hk => by rcases (h k hk).2 with h | ⟨h, _⟩ <;> omega)]
  rfl
theorem Calm.on {M : Nat → Bool} {S : Nat → Nat} (h : Calm M S) (ours : Bool) (o : Nat) (ho : o < 256) (hs : stOf S ours o = 1) : M (if ours then o else 512 + o) = true := by
  obtain ⟨h1, h2⟩ := h o ho
  cases ours with
  | true => rcases h1 with h | h
            · simp [stOf, h] at hs
            · exact h.2
  | false => rcases h2 with h | h
             · simp [stOf, h] at hs
             · exact h.2
/-- What is said is a verb of that option, or nothing. -/
theorem got_said (M : Nat → Bool) (S : Nat → Nat) (c : Int) (o : Nat) : (gotS M S c o).2 = [] ∨ ∃ k : Int, 251 ≤ k ∧ k ≤ 254 ∧ (gotS M S c o).2 = [255, k, (o : Int)] := by
  have say : ∀ (ours : Bool) (w : Nat), w ≤ 2 → sayL ours w o = [] ∨ ∃ k : Int, 251 ≤ k ∧ k ≤ 254 ∧ sayL ours w o = [255, k, (o : Int)] := by
    intro ours w hw
    unfold sayL
    by_cases h : w = 0
    · rw [if_pos h]; exact .inl rfl
    · rw [if_neg h]
      refine .inr ⟨_, ?_, ?_, rfl⟩ <;> cases ours <;> simp <;> omega
  unfold gotS
  repeat' split
  · exact say _ _ (onS_word _ _)
  · exact say _ _ (offS_word _)
  · exact say _ _ (onS_word _ _)
  · exact say _ _ (offS_word _)
  · exact .inl rfl
end Go.Proofs.Ytimidoaafllnkaa.Opt
