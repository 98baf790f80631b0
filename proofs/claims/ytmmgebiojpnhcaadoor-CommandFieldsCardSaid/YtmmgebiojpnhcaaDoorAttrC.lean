/-
  Pairs of attributes: which may stand, and how they dress a cell; the contracts of the program and of the reference.
-/
import Derived.Test.YtmmgebiojpnhcaaDoorAttrA
namespace Go.Proofs.YtmmgebiojpnhcaaDoor.Attr
open Go.RowKit Base
set_option linter.unusedVariables false

/-- May a pair stand in an order of this kind? -/
def chk (k t v : Int) : Bool := decide ((k = 41 ∨ k = 44) ∧ (t = 192 ∨ t = 65 ∨ t = 66) ∨ k = 40 ∧ (t = 65 ∨ t = 66 ∨ t = 0 ∧ v = 0))
def chkE (k t v : Int) : Int := if chk k t v = true then 0 else 33
theorem kinds (k : Int) : k = 41 ∨ k = 44 ∨ k = 40 ∨ ((k == 41) = false ∧ (k == 44) = false ∧ (k == 40) = false) := by simp; omega
theorem types (t : Int) : t = 192 ∨ t = 65 ∨ t = 66 ∨ t = 0 ∨ ((t == 192) = false ∧ (t == 65) = false ∧ (t == 66) = false ∧ (t == 0) = false) := by simp; omega
theorem zeros (v : Int) : v = 0 ∨ (v == 0) = false := by simp; omega
set_option maxHeartbeats 4000000 in
theorem check_any (k t v : Int) (w : World) : Calls Tryd.prog 77 #[.int .u8 k, .agg #[.int .u8 t, .int .u8 v]] w fun e w' => e = .returned (.int .i64 (chkE k t v)) ∧ Below w.heap.size w w' := by
  rcases kinds k with rfl | rfl | rfl | ⟨k1, k2, k3⟩ <;> rcases types t with rfl | rfl | rfl | rfl | ⟨t1, t2, t3, t4⟩ <;> rcases zeros v with rfl | v0
  all_goals
    go_enter Tryd.func77, Tryd.ntmps77
    go_wp2
    go_ret
    exact ⟨ret_int (by simp_all [chkE, chk]), (Below.refl _ _).alloc (Nat.le_refl _) _⟩
set_option maxHeartbeats 4000000 in
theorem rcheck_any (k t v : Int) (w : World) : Calls Tryd.prog 74 #[.int .u8 k, .agg #[.int .u8 t, .int .u8 v]] w fun e w' => e = .returned (.bool (chk k t v)) ∧ Below w.heap.size w w' := by
  rcases kinds k with rfl | rfl | rfl | ⟨k1, k2, k3⟩ <;> rcases types t with rfl | rfl | rfl | rfl | ⟨t1, t2, t3, t4⟩ <;> rcases zeros v with rfl | v0
  all_goals
    go_enter Tryd.func74, Tryd.ntmps74
    go_wp2
    go_ret
    exact ⟨ret_bool (by simp_all [chk]), (Below.refl _ _).alloc (Nat.le_refl _) _⟩
end Go.Proofs.YtmmgebiojpnhcaaDoor.Attr
