/-
  Attributes in words: the contract of the reference's Text.
-/
import Derived.Test.YtllfieefmnjplaaAttrB
namespace Go.Proofs.Ytllfieefmnjplaa.Attr
open Go.RowKit Base
set_option linter.unusedVariables false

def bitB (b v : Int) : Bool := if v = 32 then prot b else if v = 16 then nume b else modi b
theorem rbit_any (b v : Int) (w : World) (h0 : 0 ≤ b) (h1 : b ≤ 255) (hv : v = 32 ∨ v = 16 ∨ v = 1) : Calls Try.prog 13 #[.int .u8 b, .int .i64 v] w fun e w' => e = .returned (.bool (bitB b v)) ∧ w = w' := by
  rcases hv with rfl | rfl | rfl
  · exact rbit32 b w h0 h1
  · exact rbit16 b w h0 h1
  · exact rbit1 b w h0 h1
set_option maxRecDepth 100000 in
set_option maxHeartbeats 4000000 in
theorem rtext_any (b : Int) (w : World) (h0 : 0 ≤ b) (h1 : b ≤ 255) : Calls Try.prog 26 #[.int .u8 b] w fun e w' => e = .returned (.string (words b)) ∧ Below w.heap.size w w' := by
  have H1 : Hid (∀ (v : Int) (w : World), v = 32 ∨ v = 16 ∨ v = 1 → Calls Try.prog 13 #[.int .u8 b, .int .i64 v] w fun e w' => e = .returned (.bool (bitB b v)) ∧ w = w') := Lib.hid fun v w hv => rbit_any b v w h0 h1 hv
  have H3 : Hid (∀ w, Calls Try.prog 18 #[.int .u8 b] w fun e w' => e = .returned (.int .i64 (b / 4 % 4)) ∧ w = w') := Lib.hid fun w => rshown_any b w h0 h1
  have hs : b / 4 % 4 = 0 ∨ b / 4 % 4 = 1 ∨ b / 4 % 4 = 2 ∨ b / 4 % 4 = 3 := by omega
  unfold words
  have hP : bitB b 32 = prot b := rfl
  have hN : bitB b 16 = nume b := rfl
  have hM : bitB b 1 = modi b := rfl
  obtain ⟨s, hss⟩ : ∃ s, s = b / 4 % 4 := ⟨_, rfl⟩
  rw [← hss] at H3 hs ⊢
  generalize prot b = P at *
  generalize nume b = N at *
  generalize modi b = M at *
  generalize bitB b = B at *
  clear hss
  rcases hs with rfl | rfl | rfl | rfl <;> cases P <;> cases N <;> cases M
  all_goals
    go_enter Try.func26, Try.ntmps26
    go_wp2_with (first | (go_at_call 13; refine (H1.out _ _ (by simp)).mono ?_; rintro e w' ⟨rfl, rfl⟩) | (go_at_call 18; refine (H3.out _).mono ?_; rintro e w' ⟨rfl, rfl⟩))
    go_ret
    exact ⟨ret_str (by decide +kernel), (Below.refl _ _).alloc (Nat.le_refl _) _⟩
end Go.Proofs.Ytllfieefmnjplaa.Attr
