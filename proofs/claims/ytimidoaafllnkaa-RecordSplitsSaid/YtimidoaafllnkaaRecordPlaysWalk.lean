/-
  The walk of RecordPlays.
-/
import Derived.Test.YtimidoaafllnkaaRecordDropsWalk
import Derived.Test.YtimidoaafllnkaaRefA
import Derived.Test.YtimidoaafllnkaaOpenF
namespace Go.Proofs.Ytimidoaafllnkaa.Rec
open Go.RowKit Base Iac
set_option linter.unusedVariables false

/-- The maker beside all bytes that came. -/
structure PL (w : World) (s : Nat) (L : List Int) (v : Value) (W : World) : Prop where
  mak : MakAt W s (L.take 8192) (decide (8192 < L.length))
  row : OwnBytes (s + 1) W v L
  old : Below w.heap.size w W
  lo : w.heap.size ≤ s
section
variable {w W W' : World} {s : Nat} {L L' : List Int} {v v' : Value}
theorem PL.below (h : PL w s L v W) (t : Below W.heap.size W W') : PL w s L v W' := ⟨h.mak.below t, h.row.below t, h.old.trans (t.mono h.old.size), h.lo⟩
theorem mine_base (h : Below w.heap.size w W) (hs : w.heap.size ≤ s) (t : Turn (Mine W s) W W') : Below w.heap.size w W' := h.trans (t.below h.size fun k hk => by rcases hk with rfl | hk; exact hs; exact Nat.le_trans h.size hk)
theorem at_mine (t : Turn (At s) W W') : Turn (Mine W s) W W' := t.mono fun k hk => .inl hk
theorem PL.mine (h : PL w s L v W) (t : Turn (Mine W s) W W') (k : MakAt W' s (L'.take 8192) (decide (8192 < L'.length))) (r : OwnBytes (s + 1) W' v' L') : PL w s L' v' W' := ⟨k, r, mine_base h.old h.lo t, h.lo⟩
end
theorem laid_take (L X : List Int) : L.take 8192 ++ X.take (8192 - (L.take 8192).length) = (L ++ X).take 8192 := by
  rw [List.take_append, List.length_take]
  by_cases h : 8192 ≤ L.length
  · rw [show 8192 - min 8192 L.length = 0 by omega, show 8192 - L.length = 0 by omega]
  · rw [show 8192 - min 8192 L.length = 8192 - L.length by omega]
theorem laid_long (L X : List Int) : (decide (8192 < L.length) || decide (8192 - (L.take 8192).length < X.length)) = decide (8192 < (L ++ X).length) := by
  rw [List.length_take, List.length_append, Bool.eq_iff_iff]
  simp only [Bool.or_eq_true, decide_eq_true_eq]
  omega
theorem rows2_new {w : World} {u v : Value} {A B : List Int} (hu : RowOf .u8 w u A) (hv : RowOf .u8 w v B) : Rows8 (w.alloc (.cells #[u, v] 24)) (.slice (some ⟨w.heap.size, 0, none⟩) 2 2) [A, B] := by
  refine ⟨_, 2, rfl, fun _ => ⟨w.heap.size, 0, rfl, by rw [World.size_alloc]; omega, fun i r hi => ?_⟩⟩
  match i, hi with
  | 0, hi => simp at hi; subst hi; exact ⟨u, by simp [go_sem], hu.below (below_alloc w _)⟩
  | 1, hi => simp at hi; subst hi; exact ⟨v, by simp [go_sem], hv.below (below_alloc w _)⟩
def PlayRel (w : World) (s n : Nat) (v i : Value) (wr : World) : Prop := ∃ (k : Nat) (L : List Int), k ≤ n ∧ i = .int .i64 k ∧ L.length ≤ 9000 * k ∧ PL w s L v wr
end Go.Proofs.Ytimidoaafllnkaa.Rec
