/-
  What is on, as a row: the statements' two helpers.
-/
import Derived.Test.YtimidoaafllnkaaOptRefC
import Derived.Test.YtimidoaafllnkaaSame
namespace Go.Proofs.Ytimidoaafllnkaa.Opt
open Go.RowKit Go.Shelf Base
attribute [local go_sem] Oper.semAt_some
set_option linter.unusedVariables false

theorem info_u8 : (Try.prog.info? 5).map (fun i => (i.zero, i.size, i.bytes)) = some (some (.int .u8 0), 1, 1) := by kernel_rfl
/-- The options that the reference has on, below n. -/
def onR (L : List One) (ours : Bool) (n : Nat) : List Int := ((List.range n).filter fun o => decide (stL L ours o = 1)).map fun o : Nat => (o : Int)
theorem onR_yes {L : List One} {ours : Bool} {n : Nat} (h : stL L ours n = 1) : onR L ours (n + 1) = onR L ours n ++ [(n : Int)] := by
  simp [onR, List.range_succ, List.filter_append, h]
theorem onR_no {L : List One} {ours : Bool} {n : Nat} (h : ¬ stL L ours n = 1) : onR L ours (n + 1) = onR L ours n := by
  simp [onR, List.range_succ, List.filter_append, h]
theorem onR_le (L : List One) (ours : Bool) (n : Nat) : (onR L ours n).length ≤ n := by
  unfold onR
  rw [List.length_map]
  exact Nat.le_trans (List.length_filter_le _ _) (by simp)
theorem onR_prefix (L : List One) (ours : Bool) (k n : Nat) (h : k ≤ n) : onR L ours k <+: onR L ours n := by
  induction n with
  | zero => obtain rfl : k = 0 := by omega
            exact List.prefix_rfl
  | succ n ih =>
    by_cases e : k = n + 1
    · subst e; exact List.prefix_rfl
    · have := ih (by omega)
      by_cases hs : stL L ours n = 1
      · rw [onR_yes hs]; exact this.trans (List.prefix_append _ _)
      · rw [onR_no hs]; exact this
/-- The first q of a prefix that has that many, or of all. -/
theorem pre_take {P X : List Int} {q : Nat} (h : P <+: X) (hq : P.length = q) : X.take q = P := by
  rw [← hq]; exact (List.prefix_iff_eq_take.1 h).symm
/-- A row of bytes of the call's own. -/
def ByteRow (base : Nat) (w : World) (v : Value) (L : List Int) : Prop := w.ownsRow base 5 1 v L.length (L.map (Value.int .u8))
theorem ByteRow.slice {base : Nat} {w : World} {v : Value} {L : List Int} (h : ByteRow base w v L) : ∃ a cap, v = .slice a L.length cap := by
  rcases h.2 with ⟨rfl, h0⟩ | ⟨g, cap, cur, rfl, _⟩
  · exact ⟨none, 0, by rw [h0]⟩
  · exact ⟨_, _, rfl⟩
theorem ByteRow.keep {base : Nat} {w w' : World} {v : Value} {L : List Int} (h : ByteRow base w v L) (u : ∀ g, base ≤ g → g < w.heap.size → w'.heap[g]? = w.heap[g]?) : ByteRow base w' v L := by
  refine ⟨h.1, ?_⟩
  rcases h.2 with h0 | ⟨g, cap, cur, rfl, hg, hgb, rest⟩
  · exact .inl h0
  · exact .inr ⟨g, cap, cur, rfl, hg, (u g hg (lt_of_block hgb)).trans hgb, rest⟩
theorem ByteRow.first {base : Nat} {w : World} {v : Value} {L : List Int} (h : ByteRow base w v L) : ∀ r, v.ownBlock = some r → base ≤ r := fun r e => by
  rcases h.2 with ⟨rfl, _⟩ | ⟨g, cap, cur, rfl, hg', _, _⟩
  · cases e
  · obtain rfl : r = g := by simpa [Value.ownBlock, eq_comm] using e
    exact hg'
theorem LonEnd {s k q : Nat} {w wr : World} {p : Value} {L : List One} {ours : Bool} (hs : s = w.heap.size) (hk : k ≤ 256) (hlen : (onR L ours k).length ≤ q) (hr : ByteRow (s + 1) wr p (onR L ours k)) (hc : k = 256 ∨ q ≤ (onR L ours k).length) :
    RowIn (fun k => w.heap.size ≤ k) .u8 wr p ((onR L ours 256).take q) := by
  have e : (onR L ours 256).take q = onR L ours k := by
    rcases hc with rfl | h
    · exact List.take_of_length_le hlen
    · exact pre_take (onR_prefix L ours k 256 hk) (by omega)
  rw [e]
  exact (RowIn.of_owns hr).mono fun b hb => by omega
def LonRel (s : Nat) (v y z : Value) (L : List One) (ours : Bool) (q : Nat) (w : World) (p i : Value) (wr : World) : Prop :=
  ∃ k : Nat, k ≤ 256 ∧ i = .int .i64 k ∧ (onR L ours k).length ≤ q ∧ ByteRow (s + 1) wr p (onR L ours k) ∧ wr.heap[s]? = some (.cells #[v, y, z] 46 (0, 0)) ∧ Below s w wr
end Go.Proofs.Ytimidoaafllnkaa.Opt
