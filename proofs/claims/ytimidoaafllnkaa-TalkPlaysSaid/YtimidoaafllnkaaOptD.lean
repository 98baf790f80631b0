/-
  The iterator over the options that are on.
-/
import Derived.Test.YtimidoaafllnkaaOptC
import Derived.RangeFuncNested
import Derived.RangeFuncBound
import Derived.RangeFuncCalls
import Derived.RangeFuncLeaves
import Derived.RangeFuncBox
import Derived.Shelf.Abstract
import Derived.Shelf.RegionOpen
import Derived.OwnWalkIn
import Derived.TacticsInMore
import Derived.LoopNIn
import Derived.LoopIn
import Derived.Maps.AppendAt
import Derived.Maps.OwnIn
namespace Go.Proofs.Ytimidoaafllnkaa.Opt
open Go.RowKit Go.Shelf Base
attribute [local go_sem] Oper.semAt_some
set_option linter.unusedVariables false

/-- The options below n that are on. -/
def onL (S : Nat → Nat) (ours : Bool) (n : Nat) : List Int := ((List.range n).filter fun o => decide (stOf S ours o = 1)).map fun o : Nat => (o : Int)
theorem onL_yes {S : Nat → Nat} {ours : Bool} {n : Nat} (h : stOf S ours n = 1) : onL S ours (n + 1) = onL S ours n ++ [(n : Int)] := by
  simp [onL, List.range_succ, List.filter_append, h]
theorem onL_no {S : Nat → Nat} {ours : Bool} {n : Nat} (h : ¬ stOf S ours n = 1) : onL S ours (n + 1) = onL S ours n := by
  simp [onL, List.range_succ, List.filter_append, h]
theorem onL_le (S : Nat → Nat) (ours : Bool) (n : Nat) : (onL S ours n).length ≤ n := by
  unfold onL
  rw [List.length_map]
  exact Nat.le_trans (List.length_filter_le _ _) (by simp)
theorem onL_prefix (S : Nat → Nat) (ours : Bool) (k n : Nat) (h : k ≤ n) : onL S ours k <+: onL S ours n := by
  induction n with
  | zero => obtain rfl : k = 0 := by omega
            exact List.prefix_rfl
  | succ n ih =>
    by_cases e : k = n + 1
    · subst e; exact List.prefix_rfl
    · have := ih (by omega)
      by_cases hs : stOf S ours n = 1
      · rw [onL_yes hs]; exact this.trans (List.prefix_append _ _)
      · rw [onL_no hs]; exact this

/-- What a round must leave alone: the options, and the iterator's own two blocks. -/
def Keep3 (b bo bu : Nat) (A B : World) : Prop := A.heap.size ≤ B.heap.size ∧ ∀ k, (k = b ∨ k = bo ∨ k = bu) → B.heap[k]? = A.heap[k]?
theorem Keep3.refl (b bo bu : Nat) (A : World) : Keep3 b bo bu A A := ⟨Nat.le_refl _, fun _ _ => rfl⟩
theorem Keep3.trans {b bo bu : Nat} {A B C : World} (h : Keep3 b bo bu A B) (k : Keep3 b bo bu B C) : Keep3 b bo bu A C :=
  ⟨Nat.le_trans h.1 k.1, fun i hi => (k.2 i hi).trans (h.2 i hi)⟩
structure It (b bo bu : Nat) (M : Nat → Bool) (S : Nat → Nat) (ours : Bool) (W : World) : Prop where
  opt : OptAt W b M S
  ptr : W.cell? ⟨bo, 0, none⟩ = some (.pointer (some ⟨b, 0, none⟩))
  our : W.cell? ⟨bu, 0, none⟩ = some (.bool ours)
theorem It.keep {b bo bu : Nat} {M : Nat → Bool} {S : Nat → Nat} {ours : Bool} {A B : World} (h : It b bo bu M S ours A) (k : Keep3 b bo bu A B) : It b bo bu M S ours B :=
  ⟨(k.2 b (by simp)).trans h.opt, (cell_block (k.2 bo (by simp)) 0).trans h.ptr, (cell_block (k.2 bu (by simp)) 0).trans h.our⟩
theorem It.below {b bo bu : Nat} {M : Nat → Bool} {S : Nat → Nat} {ours : Bool} {A B : World} (h : It b bo bu M S ours A) (k : Below A.heap.size A B) : It b bo bu M S ours B :=
  h.keep ⟨k.size, fun i hi => k.block i (by
    rcases hi with rfl | rfl | rfl
    · exact h.opt.lt
    · exact World.block_lt_of_cell? _ _ h.ptr
    · exact World.block_lt_of_cell? _ _ h.our)⟩

end Go.Proofs.Ytimidoaafllnkaa.Opt
