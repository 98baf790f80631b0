/-
  The walk of RecordDrops.
-/
import Derived.Test.YtimidoaafllnkaaRecE
import Derived.Test.YtimidoaafllnkaaOpenH
import Derived.Test.YtimidoaafllnkaaSame
namespace Go.Proofs.Ytimidoaafllnkaa.Rec
open Go.RowKit Base Iac
set_option linter.unusedVariables false

theorem same_t (u v : Value) (A : List Int) (w : World) (hA : RowOf .u8 w u A) (hB : RowOf .u8 w v A) (hm : A.length ≤ maxLen) : Calls Try.prog 11 #[u, v] w fun e w' => e = .returned (.bool true) ∧ ∃ n, w' = w.drewN n := by
  have := same_any u v A A w hA hB hm
  simpa using this
/-- A call's maker at s, and all that was there. -/
structure DQ (w : World) (s : Nat) (B : List Int) (lg : Bool) (W : World) : Prop where
  mak : MakAt W s B lg
  old : Below w.heap.size w W
  lo : w.heap.size ≤ s
section
variable {w W W' : World} {s : Nat} {B B' : List Int} {lg lg' : Bool}
theorem DQ.below (h : DQ w s B lg W) (t : Below W.heap.size W W') : DQ w s B lg W' := ⟨h.mak.below t, h.old.trans (t.mono h.old.size), h.lo⟩
theorem DQ.turn (h : DQ w s B lg W) (t : Turn (At s) W W') (k : MakAt W' s B' lg') : DQ w s B' lg' W' := ⟨k, h.old.trans (t.at_below h.old.size h.lo), h.lo⟩
theorem DQ.mine (h : DQ w s B lg W) (t : Turn (Mine W s) W W') (k : MakAt W' s B' lg') : DQ w s B' lg' W' := ⟨k, h.old.trans (t.below h.old.size fun k hk => by rcases hk with rfl | hk; exact h.lo; exact Nat.le_trans h.old.size hk), h.lo⟩
theorem DQ.drewN (h : DQ w s B lg W) (n : Nat) : DQ w s B lg (W.drewN n) := ⟨h.mak.drewN n, below_drewN h.old n, h.lo⟩
end
end Go.Proofs.Ytimidoaafllnkaa.Rec
