/-
  Attributes: what their bits say, plainly; the contracts of what is asked of a byte, of the program and of the reference.
-/
import Derived.Test.YtmmgebiojpnhcaaDoorDigA
namespace Go.Proofs.YtmmgebiojpnhcaaDoor.Attr
open Go.RowKit Base
set_option linter.unusedVariables false

def prot (b : Int) : Bool := decide (b / 32 % 2 = 1)
def nume (b : Int) : Bool := decide (b / 16 % 2 = 1)
def modi (b : Int) : Bool := decide (b % 2 = 1)
def modify (b : Int) (on : Bool) : Int := if on = true then b / 2 * 2 + 1 else b / 2 * 2
theorem byte_fin {p : Int → Prop} (h : ∀ k : Fin 256, p (k.val : Int)) (b : Int) (h0 : 0 ≤ b) (h1 : b ≤ 255) : p b := by
  have := h ⟨b.toNat, by omega⟩
  simpa [Int.toNat_of_nonneg h0] using this
theorem bit32 (b : Int) (h0 : 0 ≤ b) (h1 : b ≤ 255) : (bits .and .u8 b 32 != 0) = prot b := byte_fin (p := fun b => (bits .and .u8 b 32 != 0) = prot b) (by decide +kernel) b h0 h1
theorem bit16 (b : Int) (h0 : 0 ≤ b) (h1 : b ≤ 255) : (bits .and .u8 b 16 != 0) = nume b := byte_fin (p := fun b => (bits .and .u8 b 16 != 0) = nume b) (by decide +kernel) b h0 h1
theorem bit1 (b : Int) (h0 : 0 ≤ b) (h1 : b ≤ 255) : (bits .and .u8 b 1 != 0) = modi b := byte_fin (p := fun b => (bits .and .u8 b 1 != 0) = modi b) (by decide +kernel) b h0 h1
theorem or1 (b : Int) (h0 : 0 ≤ b) (h1 : b ≤ 255) : bits .or .u8 b 1 = b / 2 * 2 + 1 := byte_fin (p := fun b => bits .or .u8 b 1 = b / 2 * 2 + 1) (by decide +kernel) b h0 h1
theorem not1 (b : Int) (h0 : 0 ≤ b) (h1 : b ≤ 255) : bits .andNot .u8 b 1 = b / 2 * 2 := byte_fin (p := fun b => bits .andNot .u8 b 1 = b / 2 * 2) (by decide +kernel) b h0 h1
theorem and63u (b : Int) (h0 : 0 ≤ b) (h1 : b ≤ 255) : bits .and .u8 b 63 = b % 64 := byte_fin (p := fun b => bits .and .u8 b 63 = b % 64) (by decide +kernel) b h0 h1
section
variable (b : Int) (w : World) (h0 : 0 ≤ b) (h1 : b ≤ 255)
include h0 h1
theorem byte_any : Calls Tryd.prog 70 #[.int .u8 b] w fun e w' => e = .returned (.int .u8 (Dig.dig (b % 64))) ∧ w = w' := by
  go_enter Tryd.func70, Tryd.ntmps70
  go_wp2_with (go_at_call 79; refine (Dig.digit_any _ _).mono ?_; rintro e w' ⟨rfl, rfl⟩)
  go_ret
  exact ⟨rfl, rfl⟩
end
end Go.Proofs.YtmmgebiojpnhcaaDoor.Attr
