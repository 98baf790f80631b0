/-
  The walk of AttrBytes.
-/
import Derived.Test.YtllfieefmnjplaaAttrF
namespace Go.Proofs.Ytllfieefmnjplaa.Attr
open Go.RowKit Base
set_option linter.unusedVariables false

set_option maxRecDepth 100000 in
set_option maxHeartbeats 4000000 in
theorem attrBytes_law {w : World} (a : Int) (ha : (Lit.int .u8 a).wf = true) (b : Int) (hb : (Lit.int .u8 b).wf = true) (on : Bool) :
    Calls Try.prog 3 #[.int .u8 a, .int .u8 b, .bool on] w fun e W' => e = .returned (.bool true) ∧ Below w.heap.size w W' := by
  obtain ⟨a0, a1⟩ := u8_bd ha
  obtain ⟨b0, b1⟩ := u8_bd hb
  have HPR : Hid (∀ w, Calls Try.prog 14 #[.int .u8 a] w fun e w' => e = .returned (.bool (prot a)) ∧ w = w') := Lib.hid fun w => protected_any a w a0 a1
  have HNU : Hid (∀ w, Calls Try.prog 15 #[.int .u8 a] w fun e w' => e = .returned (.bool (nume a)) ∧ w = w') := Lib.hid fun w => numeric_any a w a0 a1
  have HSK : Hid (∀ w, Calls Try.prog 16 #[.int .u8 a] w fun e w' => e = .returned (.bool (prot a && nume a)) ∧ w = w') := Lib.hid fun w => skip_any a w a0 a1
  have HMO : Hid (∀ w, Calls Try.prog 19 #[.int .u8 a] w fun e w' => e = .returned (.bool (modi a)) ∧ w = w') := Lib.hid fun w => modified_any a w a0 a1
  have HB : Hid (∀ (v : Int) (w : World), v = 32 ∨ v = 16 ∨ v = 1 → Calls Try.prog 13 #[.int .u8 a, .int .i64 v] w fun e w' => e = .returned (.bool (bitB a v)) ∧ w = w') := Lib.hid fun v w hv => rbit_any a v w a0 a1 hv
  have HSH : Hid (∀ w, Calls Try.prog 17 #[.int .u8 a] w fun e w' => e = .returned (.int .i64 (a / 4 % 4)) ∧ w = w') := Lib.hid fun w => shown_any a w a0 a1
  have HRS : Hid (∀ w, Calls Try.prog 18 #[.int .u8 a] w fun e w' => e = .returned (.int .i64 (a / 4 % 4)) ∧ w = w') := Lib.hid fun w => rshown_any a w a0 a1
  have HMD : Hid (∀ w, Calls Try.prog 20 #[.int .u8 a, .bool on] w fun e w' => e = .returned (.int .u8 (modify a on)) ∧ w = w') := Lib.hid fun w => modify_any a w a0 a1 on
  have HRM : Hid (∀ w, Calls Try.prog 21 #[.int .u8 a, .bool on] w fun e w' => e = .returned (.int .u8 (modify a on)) ∧ w = w') := Lib.hid fun w => rmodify_any a w a0 a1 on
  have HBY : Hid (∀ w, Calls Try.prog 22 #[.int .u8 a] w fun e w' => e = .returned (.int .u8 (Dig.dig (a % 64))) ∧ w = w') := Lib.hid fun w => byte_any a w a0 a1
  have HDG : Hid (∀ (x : Int) (w : World), x = a % 64 → Calls Try.prog 23 #[.int .i64 x] w fun e w' => e = .returned (.int .u8 (Dig.dig (a % 64))) ∧ w = w') := Lib.hid fun x w hx => by
    have := Dig.rdigit_any (a % 64) w (by omega) (by omega)
    rw [hx]; exact this
  have HSM : Hid (∀ w, Calls Try.prog 24 #[.int .u8 a, .int .u8 b] w fun e w' => e = .returned (.bool (decide (a % 64 = b % 64))) ∧ w = w') := Lib.hid fun w => asame_any a w a0 a1 b b0 b1
  have HTX : Hid (∀ w, Calls Try.prog 25 #[.int .u8 a] w fun e w' => e = .returned (.string (words a)) ∧ w = w') := Lib.hid fun w => text_any a w a0 a1
  have HRT : Hid (∀ w, Calls Try.prog 26 #[.int .u8 a] w fun e w' => e = .returned (.string (words a)) ∧ Below w.heap.size w w') := Lib.hid fun w => rtext_any a w a0 a1
  have hP : bitB a 32 = prot a := rfl
  have hN : bitB a 16 = nume a := rfl
  have hM : bitB a 1 = modi a := rfl
  generalize prot a = P at *
  generalize nume a = N at *
  generalize modi a = M at *
  generalize bitB a = B at *
  generalize words a = T at *
  generalize modify a on = D at *
  generalize Dig.dig (a % 64) = G at *
  clear ha hb
  have HA := fun w => attr_alive w
  have HAL := Lib.hid HA
  clear HA
  have hsm : a % 64 = b % 64 ∨ (a % 64 == b % 64) = false := by simp; omega
  have HSX : Hid (∃ X, X = (a % 64 == b % 64) ∧ ∀ w, Calls Try.prog 24 #[.int .u8 a, .int .u8 b] w fun e w' => e = .returned (.bool X) ∧ w = w') := Lib.hid ⟨_, rfl, fun w => by
    have := HSM.out w
    rw [show decide (a % 64 = b % 64) = (a % 64 == b % 64) by rw [Bool.eq_iff_iff]; simp] at this
    exact this⟩
  clear HSM
  obtain ⟨X, hX, hsm3⟩ := HSX.out
  have HSM := Lib.hid hsm3
  clear HSX hsm3
  rcases hsm with hsm | hsm
  · rw [hsm] at hX
    simp at hX
    subst hX
    have hsm := hsm
    cases P <;> cases N
    all_goals
      go_enter Try.func3, Try.ntmps3
      go_wp2_with fail
      refine (HAL.out _).mono ?_
      rintro e W1 ⟨rfl, hb1⟩
      have HB1 := Lib.hid hb1
      clear hb1
      go_wp2_with (first | (go_at_call 13; refine (HB.out _ _ (by simp)).mono ?_; rintro e w' ⟨rfl, rfl⟩) | (go_at_call 14; refine (HPR.out _).mono ?_; rintro e w' ⟨rfl, rfl⟩) | (go_at_call 15; refine (HNU.out _).mono ?_; rintro e w' ⟨rfl, rfl⟩) | (go_at_call 16; refine (HSK.out _).mono ?_; rintro e w' ⟨rfl, rfl⟩) | (go_at_call 17; refine (HSH.out _).mono ?_; rintro e w' ⟨rfl, rfl⟩) | (go_at_call 18; refine (HRS.out _).mono ?_; rintro e w' ⟨rfl, rfl⟩) | (go_at_call 19; refine (HMO.out _).mono ?_; rintro e w' ⟨rfl, rfl⟩) | (go_at_call 20; refine (HMD.out _).mono ?_; rintro e w' ⟨rfl, rfl⟩) | (go_at_call 21; refine (HRM.out _).mono ?_; rintro e w' ⟨rfl, rfl⟩) | (go_at_call 22; refine (HBY.out _).mono ?_; rintro e w' ⟨rfl, rfl⟩) | (go_at_call 23; refine (HDG.out _ _ (by omega)).mono ?_; rintro e w' ⟨rfl, rfl⟩) | (go_at_call 24; refine (HSM.out _).mono ?_; rintro e w' ⟨rfl, rfl⟩) | (go_at_call 25; refine (HTX.out _).mono ?_; rintro e w' ⟨rfl, rfl⟩) | (go_at_call 26; refine (HRT.out _).mono ?_; rintro e w' ⟨rfl, hb2⟩))
      go_ret
      exact ⟨rfl, HB1.out.trans (hb2.mono HB1.out.size)⟩
  · rw [hsm] at hX
    subst hX
    cases P <;> cases N
    all_goals
      go_enter Try.func3, Try.ntmps3
      go_wp2_with fail
      refine (HAL.out _).mono ?_
      rintro e W1 ⟨rfl, hb1⟩
      have HB1 := Lib.hid hb1
      clear hb1
      go_wp2_with (first | (go_at_call 13; refine (HB.out _ _ (by simp)).mono ?_; rintro e w' ⟨rfl, rfl⟩) | (go_at_call 14; refine (HPR.out _).mono ?_; rintro e w' ⟨rfl, rfl⟩) | (go_at_call 15; refine (HNU.out _).mono ?_; rintro e w' ⟨rfl, rfl⟩) | (go_at_call 16; refine (HSK.out _).mono ?_; rintro e w' ⟨rfl, rfl⟩) | (go_at_call 17; refine (HSH.out _).mono ?_; rintro e w' ⟨rfl, rfl⟩) | (go_at_call 18; refine (HRS.out _).mono ?_; rintro e w' ⟨rfl, rfl⟩) | (go_at_call 19; refine (HMO.out _).mono ?_; rintro e w' ⟨rfl, rfl⟩) | (go_at_call 20; refine (HMD.out _).mono ?_; rintro e w' ⟨rfl, rfl⟩) | (go_at_call 21; refine (HRM.out _).mono ?_; rintro e w' ⟨rfl, rfl⟩) | (go_at_call 22; refine (HBY.out _).mono ?_; rintro e w' ⟨rfl, rfl⟩) | (go_at_call 23; refine (HDG.out _ _ (by omega)).mono ?_; rintro e w' ⟨rfl, rfl⟩) | (go_at_call 24; refine (HSM.out _).mono ?_; rintro e w' ⟨rfl, rfl⟩) | (go_at_call 25; refine (HTX.out _).mono ?_; rintro e w' ⟨rfl, rfl⟩) | (go_at_call 26; refine (HRT.out _).mono ?_; rintro e w' ⟨rfl, hb2⟩))
      go_ret
      exact ⟨rfl, HB1.out.trans (hb2.mono HB1.out.size)⟩
end Go.Proofs.Ytllfieefmnjplaa.Attr
