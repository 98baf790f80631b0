/-
  The contract of Busy.
-/
import Derived.Test.YtimidoaafllnkaaOptN
namespace Go.Proofs.Ytimidoaafllnkaa.Opt
open Go.RowKit Base
set_option linter.unusedVariables false

/-! ### Is something on its way? -/
def bz (S : Nat → Nat) (off : Nat) : Bool := (List.range 256).any fun o => decide (1 < S (off + o))
def busyB (S : Nat → Nat) : Bool := bz S 256 || bz S 768
theorem bz_true {S : Nat → Nat} {off k : Nat} (hk : k < 256) (h : 1 < S (off + k)) : bz S off = true := by
  unfold bz; rw [List.any_eq_true]; exact ⟨k, by simpa using hk, by simpa using h⟩
theorem bz_false {S : Nat → Nat} {off : Nat} (h : ∀ k, k < 256 → S (off + k) ≤ 1) : bz S off = false := by
  unfold bz
  rw [List.any_eq_false]
  intro k hk
  have := h k (by simpa using hk)
  simp; omega
/-- The first that is on its way, or none: what counts is which. -/
def Found (S : Nat → Nat) (off : Nat) (w : World) (e : Ending) (w' : World) : Prop := w = w' ∧ ∃ n : Int, e = .returned (.int .i64 n) ∧ (bz S off = true ∧ 0 ≤ n ∨ bz S off = false ∧ n < 0)
section
variable {w : World} {b : Nat} {M : Nat → Bool} {S : Nat → Nat}
end

end Go.Proofs.Ytimidoaafllnkaa.Opt
