/-
  The reference's alarms beside the clock's: the same ones, in another order.
-/
import Derived.Test.YtndhhpiklaffoaaClockRefB
namespace Go.Proofs.Ytndhhpiklaffoaa.Clock
open Go.RowKit
set_option linter.unusedVariables false

section
variable {R L : List (Int × Int)} {now : Int}
theorem has_perm (h : R.Perm L) (id : Int) : has R id = has L id := by
  rw [Bool.eq_iff_iff, has_iff, has_iff]
  exact ⟨fun ⟨q, hq, he⟩ => ⟨q, h.mem_iff.1 hq, he⟩, fun ⟨q, hq, he⟩ => ⟨q, h.mem_iff.2 hq, he⟩⟩
theorem ids_perm (h : R.Perm L) (hu : L.Pairwise fun p q => p.2 ≠ q.2) : R.Pairwise fun p q => p.2 ≠ q.2 :=
  (h.pairwise_iff fun {a b} hab => fun e => hab e.symm).2 hu
theorem find_perm (h : R.Perm L) (hu : L.Pairwise fun p q => p.2 ≠ q.2) (id : Int) : findI R id = findI L id := by
  unfold findI
  rw [has_perm h]
  cases hh : has L id with
  | false => rfl
  | true =>
    obtain ⟨q, hq, he⟩ := has_iff.1 hh
    rw [(at_fi (ids_perm h hu) (h.mem_iff.2 hq) he).2, (at_fi hu hq he).2]
theorem drop_perm (h : R.Perm L) (id : Int) : (dropL R id).Perm (dropL L id) := h.filter _
theorem ins_perm (L : List (Int × Int)) (p : Int × Int) : (insL L p).Perm (p :: L) := by
  unfold insL
  refine List.perm_middle.trans ?_
  rw [List.takeWhile_append_dropWhile]
theorem set_perm (h : R.Perm L) (id t : Int) : (dropL R id ++ [(t, id)]).Perm (insL (dropL L id) (t, id)) :=
  (List.perm_append_comm.trans (by exact List.Perm.cons _ (drop_perm h id))).trans (ins_perm _ _).symm
/-- The first of all. -/
theorem first_perm {p : Int × Int} (h : R.Perm (p :: L)) (hs : (p :: L).Pairwise Lt) {m : Int × Int} (hm : m ∈ R) (hle : ∀ q ∈ R, ¬ Lt q m) : m = p := by
  rcases List.mem_cons.1 (h.mem_iff.1 hm) with e | hmL
  · exact e
  · exact absurd ((List.pairwise_cons.1 hs).1 m hmL) (hle p (h.mem_iff.2 (by simp)))
end
end Go.Proofs.Ytndhhpiklaffoaa.Clock
