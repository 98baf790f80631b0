/-
  The reference's records are the maker's: plainly.
-/
import Derived.Test.YtimidoaafllnkaaRec10B
import Derived.Test.YtimidoaafllnkaaRecordPlaysWalk
namespace Go.Proofs.Ytimidoaafllnkaa.Rec
open Go.RowKit Base Iac
set_option linter.unusedVariables false

def shorts (R : List (List Int × Bool)) : List (List Int) := R.filterMap fun p => if p.2 = true then none else some p.1
def longs (R : List (List Int × Bool)) : Nat := R.countP fun p => p.2
def toSt (T : List (List Int × Bool) × List Int) : St := ⟨T.2.take 8192, decide (8192 < T.2.length), shorts T.1, longs T.1⟩
theorem step_toSt (T : List (List Int × Bool) × List Int) (e : Ev) : stepM (toSt T) e = toSt (st10 T e) := by
  obtain ⟨R, B⟩ := T
  unfold stepM st10 toSt
  by_cases k1 : e.kind = 1
  · rw [if_pos k1, if_pos k1]
    simp only
    rw [laid_take, laid_long]
  · rw [if_neg k1, if_neg k1]
    by_cases k2 : e.kind = 2
    · rw [if_pos k2, if_pos k2]
      by_cases hb : 8192 < B.length
      · simp only [decide_eq_true_eq, if_pos hb]
        simp [shorts, longs, List.filterMap_append, List.countP_append]
      · simp only [decide_eq_true_eq, if_neg hb]
        have ht : B.take 8192 = B := List.take_of_length_le (by omega)
        rw [ht]
        simp [shorts, longs, List.filterMap_append, List.countP_append]
    · rw [if_neg k2, if_neg k2]
theorem run10_M (L : List Ev) : runM L = toSt (run10 L) := by
  have : ∀ (L : List Ev) (T : List (List Int × Bool) × List Int), L.foldl stepM (toSt T) = toSt (L.foldl st10 T) := by
    intro L
    induction L with
    | nil => intro T; rfl
    | cons e L ih => intro T; rw [List.foldl_cons, List.foldl_cons, step_toSt, ih]
  exact this L ([], [])
end Go.Proofs.Ytimidoaafllnkaa.Rec
