/-
  Attributes: what their bits say, plainly; the contracts of what is asked of a byte, of the program and of the reference.
-/
import Derived.Test.YtlcjiffnmpkndaaDigA
namespace Go.Proofs.Ytlcjiffnmpkndaa.Attr
open Go.RowKit Base
set_option linter.unusedVariables false

def prot (b : Int) : Bool := decide (b / 32 % 2 = 1)
def nume (b : Int) : Bool := decide (b / 16 % 2 = 1)
def modi (b : Int) : Bool := decide (b % 2 = 1)
def modify (b : Int) (on : Bool) : Int := if on = true then b / 2 * 2 + 1 else b / 2 * 2
theorem byte_fin {p : Int → Prop} (h : ∀ k : Fin 256, p (k.val : Int)) (b : Int) (h0 : 0 ≤ b) (h1 : b ≤ 255) : p b := by
  have := h ⟨b.toNat, by omega⟩
  simpa [Int.toNat_of_nonneg h0] using this
theorem bit32 (b : Int) (h0 : 0 ≤ b) (h1 : b ≤ 255) : (bits .and .u8 b 32 != 0) = prot b := byte_fin (p := fun b => (bits .and .u8 b 32 != 0) = prot b) (by decide +kernel) b h0 h1
theorem bit16 (b : Int) (h0 : 0 ≤ b) (h1 : b ≤ 255) : (bits .and .u8 b 16 != 0) = nume b := byte_fin (p := fun b => (bits .and .u8 b 16 != 0) = nume b) (by decide +kernel) b h0 h1
theorem bit1 (b : Int) (h0 : 0 ≤ b) (h1 : b ≤ 255) : (bits .and .u8 b 1 != 0) = modi b := byte_fin (p := fun b => (bits .and .u8 b 1 != 0) = modi b) (by decide +kernel) b h0 h1
theorem or1 (b : Int) (h0 : 0 ≤ b) (h1 : b ≤ 255) : bits .or .u8 b 1 = b / 2 * 2 + 1 := byte_fin (p := fun b => bits .or .u8 b 1 = b / 2 * 2 + 1) (by decide +kernel) b h0 h1
theorem not1 (b : Int) (h0 : 0 ≤ b) (h1 : b ≤ 255) : bits .andNot .u8 b 1 = b / 2 * 2 := byte_fin (p := fun b => bits .andNot .u8 b 1 = b / 2 * 2) (by decide +kernel) b h0 h1
theorem and63u (b : Int) (h0 : 0 ≤ b) (h1 : b ≤ 255) : bits .and .u8 b 63 = b % 64 := byte_fin (p := fun b => bits .and .u8 b 63 = b % 64) (by decide +kernel) b h0 h1
section
variable (b : Int) (w : World) (h0 : 0 ≤ b) (h1 : b ≤ 255)
include h0 h1
theorem protected_any : Calls Try.prog 81 #[.int .u8 b] w fun e w' => e = .returned (.bool (prot b)) ∧ w = w' := by
  go_enter Try.func81, Try.ntmps81
  go_wp2
  go_ret
  exact ⟨ret_bool (bit32 b h0 h1), rfl⟩
theorem numeric_any : Calls Try.prog 90 #[.int .u8 b] w fun e w' => e = .returned (.bool (nume b)) ∧ w = w' := by
  go_enter Try.func90, Try.ntmps90
  go_wp2
  go_ret
  exact ⟨ret_bool (bit16 b h0 h1), rfl⟩
theorem modified_any : Calls Try.prog 51 #[.int .u8 b] w fun e w' => e = .returned (.bool (modi b)) ∧ w = w' := by
  go_enter Try.func51, Try.ntmps51
  go_wp2
  go_ret
  exact ⟨ret_bool (bit1 b h0 h1), rfl⟩
theorem skip_any : Calls Try.prog 78 #[.int .u8 b] w fun e w' => e = .returned (.bool (prot b && nume b)) ∧ w = w' := by
  have H1 := Lib.hid (protected_any b w h0 h1)
  have H2 := Lib.hid (numeric_any b w h0 h1)
  obtain ⟨P, hP⟩ : ∃ P, P = prot b := ⟨_, rfl⟩
  obtain ⟨M, hM⟩ : ∃ M, M = nume b := ⟨_, rfl⟩
  rw [← hP] at H1 ⊢
  rw [← hM] at H2 ⊢
  clear hP hM
  cases P <;>
  · go_enter Try.func78, Try.ntmps78
    go_wp2_with (first | (go_at_call 81; refine H1.out.mono ?_; rintro e w' ⟨rfl, rfl⟩) | (go_at_call 90; refine H2.out.mono ?_; rintro e w' ⟨rfl, rfl⟩))
    go_ret
    exact ⟨rfl, rfl⟩
theorem modify_any (on : Bool) : Calls Try.prog 46 #[.int .u8 b, .bool on] w fun e w' => e = .returned (.int .u8 (modify b on)) ∧ w = w' := by
  cases on
  · go_enter Try.func46, Try.ntmps46
    go_wp2
    go_ret
    exact ⟨ret_int (not1 b h0 h1), rfl⟩
  · go_enter Try.func46, Try.ntmps46
    go_wp2
    go_ret
    exact ⟨ret_int (or1 b h0 h1), rfl⟩
theorem rbit32 : Calls Try.prog 66 #[.int .u8 b, .int .i64 32] w fun e w' => e = .returned (.bool (prot b)) ∧ w = w' := by
  go_enter Try.func66, Try.ntmps66
  go_wp2
  go_ret
  exact ⟨ret_bool (by unfold prot; rw [Bool.eq_iff_iff]; simp), rfl⟩
theorem rbit16 : Calls Try.prog 66 #[.int .u8 b, .int .i64 16] w fun e w' => e = .returned (.bool (nume b)) ∧ w = w' := by
  go_enter Try.func66, Try.ntmps66
  go_wp2
  go_ret
  exact ⟨ret_bool (by unfold nume; rw [Bool.eq_iff_iff]; simp), rfl⟩
theorem rbit1 : Calls Try.prog 66 #[.int .u8 b, .int .i64 1] w fun e w' => e = .returned (.bool (modi b)) ∧ w = w' := by
  go_enter Try.func66, Try.ntmps66
  go_wp2
  go_ret
  exact ⟨ret_bool (by unfold modi; rw [Bool.eq_iff_iff]; simp), rfl⟩
theorem rmodify_any (on : Bool) : Calls Try.prog 142 #[.int .u8 b, .bool on] w fun e w' => e = .returned (.int .u8 (modify b on)) ∧ w = w' := by
  have e1 : IntKind.u8.wrap (b - b % 2) = b / 2 * 2 := by rw [show b - b % 2 = b / 2 * 2 by omega]; exact IntWalk.u8_in _ (by omega)
  have e2 : IntKind.u8.wrap (b / 2 * 2 + 1) = b / 2 * 2 + 1 := IntWalk.u8_in _ (by omega)
  cases on
  · go_enter Try.func142, Try.ntmps142
    go_wp2
    go_ret
    exact ⟨ret_int (by show _ = b / 2 * 2; omega), rfl⟩
  · go_enter Try.func142, Try.ntmps142
    go_wp2
    go_ret
    exact ⟨ret_int (by show _ = b / 2 * 2 + 1; omega), rfl⟩
end
end Go.Proofs.Ytlcjiffnmpkndaa.Attr
