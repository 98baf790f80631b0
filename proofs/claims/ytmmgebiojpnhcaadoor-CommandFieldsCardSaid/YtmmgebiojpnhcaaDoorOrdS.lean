/-
  The law's joined: its contract.
-/
import Derived.Test.YtmmgebiojpnhcaaDoorOrdR
import Derived.BigRegion
namespace Go.Proofs.YtmmgebiojpnhcaaDoor.Ord
open Go.RowKit Base Iac
set_option linter.unusedVariables false
set_option linter.unusedSimpArgs false

def dsum (L : List Or) : Nat := (L.map fun o => o.data.length).sum
theorem dsum_take (L : List Or) (k : Nat) (q : Or) (h : L[k]? = some q) : dsum (L.take (k + 1)) = dsum (L.take k) + q.data.length := by
  unfold dsum
  rw [List.take_add_one, h]
  simp
theorem dsum_le (L : List Or) (k : Nat) : dsum (L.take k) ≤ dsum L := by
  unfold dsum
  conv => rhs; rw [← List.take_append_drop k L]
  rw [List.map_append, List.sum_append]
  omega
theorem fold_take (L : List Or) (k : Nat) (q : Or) (h : L[k]? = some q) : (L.take (k + 1)).foldl joinStep [] = joinStep ((L.take k).foldl joinStep []) q := by
  rw [List.take_add_one, h, List.foldl_append]
  rfl
theorem jq_nil {s : Nat} {w : World} (h : s ≤ w.heap.size) : JQ s (w.alloc (.cells #[] 92)) (.slice (some ⟨w.heap.size, 0, none⟩) 0 0) [] :=
  ⟨⟨rfl, .inr ⟨w.heap.size, 0, #[], rfl, h, heap_alloc_new w _, by simp, by simp [maxLen], rfl, by simp; rfl⟩⟩, by simp⟩
structure JR (L : List Or) (s : Nat) (w : World) (k : Nat) (v : Value) (wr : World) : Prop where
  ex : ∃ P, JQ s wr v P ∧ P.map (·.1) = (L.take k).foldl joinStep [] ∧ P.length ≤ k ∧ ∀ p ∈ P, p.1.data.length ≤ dsum (L.take k)
  old : Below s w wr
def JRel (L : List Or) (n s : Nat) (w : World) (v i : Value) (wr : World) : Prop := ∃ k : Nat, k ≤ n ∧ i = .int .i64 k ∧ JR L s w k v wr
theorem two_rows {w : World} {u v : Value} {X Y : List Int} (h : RowOf .u8 w u X) (k : RowOf .u8 w v Y) : Rows8 (w.alloc (.cells #[u, v] 22)) (.slice (some ⟨w.heap.size, 0, none⟩) 2 2) [X, Y] := by
  have hb := below_alloc w (.cells #[u, v] 22)
  have hn := heap_alloc_new w (.cells #[u, v] 22)
  refine ⟨_, 2, rfl, fun _ => ⟨w.heap.size, 0, rfl, lt_of_block hn, fun i r hi => ?_⟩⟩
  match i, hi with
  | 0, hi =>
    obtain rfl : X = r := by simpa using hi
    exact ⟨u, by unfold World.cell?; rw [hn]; rfl, h.below hb⟩
  | 1, hi =>
    obtain rfl : Y = r := by simpa using hi
    exact ⟨v, by unfold World.cell?; rw [hn]; rfl, k.below hb⟩
end Go.Proofs.YtmmgebiojpnhcaaDoor.Ord
