/-
  Rows of bytes of the call's own.
-/
import Derived.Test.YtglkjcdbffkbcaaBase
import Derived.Maps.AppendAt
namespace Go.Proofs.Ytglkjcdbffkbcaa.Base
open Go.RowKit
set_option linter.unusedVariables false

theorem info_byte : (Try.prog.info? 5).map (fun i => (i.zero, i.size, i.bytes)) = some (some (.int .u8 0), 1, 1) := by kernel_rfl
/-- A row of bytes of the call's own. -/
def OwnBytes (base : Nat) (w : World) (v : Value) (L : List Int) : Prop := w.ownsRow base 5 1 v L.length (L.map (Value.int .u8))
section
variable {base base' : Nat} {w w' : World} {v : Value} {L : List Int}
theorem OwnBytes.nil (base : Nat) (w : World) : OwnBytes base w (.slice none 0 0) [] := ⟨rfl, .inl ⟨rfl, rfl⟩⟩
theorem OwnBytes.slice (h : OwnBytes base w v L) : ∃ a cap, v = .slice a L.length cap := by
  rcases h.2 with ⟨rfl, h0⟩ | ⟨g, cap, cur, rfl, _⟩
  · exact ⟨none, 0, by rw [h0]⟩
  · exact ⟨_, _, rfl⟩
theorem OwnBytes.keep (h : OwnBytes base w v L) (u : ∀ g, base ≤ g → g < w.heap.size → w'.heap[g]? = w.heap[g]?) : OwnBytes base w' v L := by
  refine ⟨h.1, ?_⟩
  rcases h.2 with h0 | ⟨g, cap, cur, rfl, hg, hgb, rest⟩
  · exact .inl h0
  · exact .inr ⟨g, cap, cur, rfl, hg, (u g hg (lt_of_block hgb)).trans hgb, rest⟩
theorem OwnBytes.below (h : OwnBytes base w v L) (u : Below w.heap.size w w') : OwnBytes base w' v L := h.keep fun g _ hl => u.block g hl
theorem OwnBytes.lower (h : OwnBytes base w v L) (hb : base' ≤ base) : OwnBytes base' w v L := ownsRow_base h hb
theorem OwnBytes.first (h : OwnBytes base w v L) : ∀ r, v.ownBlock = some r → base ≤ r := fun r e => by
  rcases h.2 with ⟨rfl, _⟩ | ⟨g, cap, cur, rfl, hg', _, _⟩
  · cases e
  · obtain rfl : r = g := by simpa [Value.ownBlock, eq_comm] using e
    exact hg'
theorem OwnBytes.rowIn (h : OwnBytes base w v L) : RowIn (fun k => base ≤ k) .u8 w v L := RowIn.of_owns h
theorem OwnBytes.row (h : OwnBytes base w v L) : RowOf .u8 w v L := RowOf.of_owns h
/-- What append leaves: the longer row; all below the base is as it was. -/
theorem OwnBytes.grown {w1 : World} {v' : Value} {X : List Int} {o : Obj} {w0 : World} (h : OwnBytes base w v L) (hown : w1.ownsRow base 5 1 v' (L.length + X.length) (L.map (Value.int .u8) ++ X.map (Value.int .u8))) (hg : (w.alloc o).grownBy w1 v.ownBlock) (hb : Below base w0 w) (hw : base ≤ w.heap.size) :
    OwnBytes base w1 v' (L ++ X) ∧ Below base w0 w1 := by
  refine ⟨?_, (hb.alloc hw _).grown hg (by rw [World.size_alloc]; omega) (fun r e => h.first r e)⟩
  unfold OwnBytes
  rw [List.length_append, List.map_append]
  exact hown
theorem OwnBytes.grown0 {w1 : World} {v' : Value} {X : List Int} {w0 : World} (h : OwnBytes base w v L) (hown : w1.ownsRow base 5 1 v' (L.length + X.length) (L.map (Value.int .u8) ++ X.map (Value.int .u8))) (hg : w.grownBy w1 v.ownBlock) (hb : Below base w0 w) (hw : base ≤ w.heap.size) :
    OwnBytes base w1 v' (L ++ X) ∧ Below base w0 w1 := by
  refine ⟨?_, hb.grown hg hw (fun r e => h.first r e)⟩
  unfold OwnBytes
  rw [List.length_append, List.map_append]
  exact hown
/-- What is read of it. -/
theorem OwnBytes.lit (h : OwnBytes base w v L) : (v = .slice none 0 0 ∧ L = []) ∨ ∃ g cap, v = .slice (some ⟨g, 0, none⟩) L.length cap ∧ ∀ (j : Nat) (u : Value), (L.map (Value.int .u8))[j]? = some u → w.cell? ((⟨g, 0, none⟩ : Addr).add j) = some u := by
  rcases h.2 with ⟨rfl, h0⟩ | ⟨g, cap, cur, rfl, _⟩
  · exact .inl ⟨rfl, List.eq_nil_of_length_eq_zero h0⟩
  · exact .inr ⟨g, cap, rfl, fun j u hu => World.ownsRow.cells h (g := g) rfl j u hu⟩
theorem new2_own (w : World) (a b : Int) : OwnBytes w.heap.size (w.alloc (.cells #[.int .u8 a, .int .u8 b] 5)) (.slice (some ⟨w.heap.size, 0, none⟩) 2 2) [a, b] :=
  ⟨rfl, .inr ⟨w.heap.size, 2, #[.int .u8 a, .int .u8 b], rfl, Nat.le_refl _, heap_alloc_new w _, by simp, by simp [maxLen], by simp, by simp⟩⟩
theorem bytes_one (L : List Int) : ∀ u ∈ L.map (Value.int .u8), u.oneCell' = true := by
  intro u hu
  obtain ⟨x, _, rfl⟩ := List.mem_map.1 hu
  rfl
end
end Go.Proofs.Ytglkjcdbffkbcaa.Base
