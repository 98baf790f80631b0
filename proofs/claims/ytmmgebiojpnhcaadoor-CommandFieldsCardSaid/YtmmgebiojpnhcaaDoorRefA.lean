/-
  The reference's Escape and Join: their contracts.
-/
import Derived.Test.YtmmgebiojpnhcaaDoorIacA
namespace Go.Proofs.YtmmgebiojpnhcaaDoor.Iac
open Go.RowKit Base
set_option linter.unusedVariables false

theorem own_new0 {s : Nat} {w : World} (h : s ≤ w.heap.size) : OwnBytes s (w.alloc (.cells #[] 5)) (.slice (some ⟨w.heap.size, 0, none⟩) 0 0) [] :=
  ⟨rfl, .inr ⟨w.heap.size, 0, #[], rfl, h, heap_alloc_new w _, by simp, by simp [maxLen], rfl, by simp⟩⟩
def REscRel (L : List Int) (n s : Nat) (w : World) (p i : Value) (wr : World) : Prop :=
  ∃ k : Nat, k ≤ n ∧ i = .int .i64 k ∧ OwnBytes s wr p (escL (L.take k)) ∧ Below s w wr
/-- Rows of bytes in a row. -/
def Rows8 (w : World) (v : Value) (X : List (List Int)) : Prop :=
  ∃ a cap, v = .slice a X.length cap ∧ (X ≠ [] → ∃ g off, a = some ⟨g, off, none⟩ ∧ g < w.heap.size ∧ ∀ (i : Nat) (r : List Int), X[i]? = some r → ∃ u, w.cell? ⟨g, off + i, none⟩ = some u ∧ RowOf .u8 w u r)
def RJoinOut (X : List (List Int)) (n s : Nat) (w : World) (p i : Value) (wr : World) : Prop :=
  ∃ k : Nat, k ≤ n ∧ i = .int .i64 k ∧ OwnBytes s wr p (X.take k).flatten ∧ Below s w wr
def RJoinIn (A r : List Int) (s : Nat) (w : World) (p j : Value) (wr : World) : Prop :=
  ∃ k : Nat, k ≤ r.length ∧ j = .int .i64 k ∧ OwnBytes s wr p (A ++ r.take k) ∧ Below s w wr
theorem flat_le (X : List (List Int)) (k : Nat) : (X.take k).flatten.length ≤ X.flatten.length := by
  have : X.flatten = (X.take k).flatten ++ (X.drop k).flatten := by rw [← List.flatten_append, List.take_append_drop]
  rw [this, List.length_append]
  omega
end Go.Proofs.YtmmgebiojpnhcaaDoor.Iac
