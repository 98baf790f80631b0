/-
  Two queues and the reference's two, side by side: what a step turns.
-/
import Derived.Test.YtndhhpiklaffoaaMailRefC
namespace Go.Proofs.Ytndhhpiklaffoaa.Mail
open Go.RowKit
open Clock (heap_set)
set_option linter.unusedVariables false

/-- The blocks behind the reference's row. -/
def Aft (t : Nat) (b : Nat) : Prop := t < b
/-- The queues in blocks s to s + 3, their pointers in block g, the reference's two in block t. -/
structure MQ (s g t : Nat) (w : World) (r1 r2 : Nat) (A1 : List Int) (c1 : Bool) (A2 : List Int) (c2 : Bool) (X1 : List Int) (d1 : Bool) (u1 : Value) (X2 : List Int) (d2 : Bool) (u2 : Value) (W : World) : Prop where
  q1 : QAt W s r1 A1 c1
  q2 : QAt W (s + 2) r2 A2 c2
  ptr : W.heap[g]? = some (.cells #[.pointer (some ⟨s + 1, 0, none⟩), .pointer (some ⟨s + 2 + 1, 0, none⟩)] 24 (0, 0))
  row : W.heap[t]? = some (.cells #[u1, .int .i64 r1, .bool d1, u2, .int .i64 r2, .bool d2] 29 (0, 0))
  v1 : RowFrom (Aft t) W u1 X1
  v2 : RowFrom (Aft t) W u2 X2
  old : Below s w W
  ord : s + 4 ≤ g ∧ g < t
section
variable {s g t : Nat} {w W W' : World} {r1 r2 : Nat} {A1 A2 X1 X2 : List Int} {c1 c2 d1 d2 : Bool} {u1 u2 : Value}
theorem MQ.lt (h : MQ s g t w r1 r2 A1 c1 A2 c2 X1 d1 u1 X2 d2 u2 W) : t < W.heap.size := lt_of_block h.row
theorem MQ.below (h : MQ s g t w r1 r2 A1 c1 A2 c2 X1 d1 u1 X2 d2 u2 W) (u : Below W.heap.size W W') : MQ s g t w r1 r2 A1 c1 A2 c2 X1 d1 u1 X2 d2 u2 W' := by
  have hl := h.lt
  obtain ⟨o1, o2⟩ := h.ord
  exact ⟨h.q1.below u (by omega), h.q2.below u (by omega), (u.block g (by omega)).trans h.ptr, (u.block t hl).trans h.row, h.v1.below u, h.v2.below u, h.old.trans (u.mono (by omega)), h.ord⟩
theorem MQ.drewN (h : MQ s g t w r1 r2 A1 c1 A2 c2 X1 d1 u1 X2 d2 u2 W) (n : Nat) : MQ s g t w r1 r2 A1 c1 A2 c2 X1 d1 u1 X2 d2 u2 (W.drewN n) := h.below (below_drewN (Below.refl _ W) n)
theorem MQ.alloc (h : MQ s g t w r1 r2 A1 c1 A2 c2 X1 d1 u1 X2 d2 u2 W) (o : Obj) : MQ s g t w r1 r2 A1 c1 A2 c2 X1 d1 u1 X2 d2 u2 (W.alloc o) := h.below ((Below.refl _ W).alloc (Nat.le_refl _) o)
/-- A step of the first queue alone. -/
theorem MQ.turn1 {A : List Int} {c : Bool} (h : MQ s g t w r1 r2 A1 c1 A2 c2 X1 d1 u1 X2 d2 u2 W) (q : QAt W' s r1 A c) (u : Turn (Of s) W W') : MQ s g t w r1 r2 A c A2 c2 X1 d1 u1 X2 d2 u2 W' := by
  have hl := h.lt
  obtain ⟨o1, o2⟩ := h.ord
  exact ⟨q, h.q2.keep u (by unfold Of; omega) (by unfold Of; omega), (u.block g (by omega) (by unfold Of; omega)).trans h.ptr, (u.block t hl (by unfold Of; omega)).trans h.row, h.v1.keep fun b hb hlt => u.block b hlt (by unfold Aft at hb; unfold Of; omega), h.v2.keep fun b hb hlt => u.block b hlt (by unfold Aft at hb; unfold Of; omega), h.old.trans (u.below (by omega) (by unfold Of; omega)), h.ord⟩
theorem MQ.turn2 {A : List Int} {c : Bool} (h : MQ s g t w r1 r2 A1 c1 A2 c2 X1 d1 u1 X2 d2 u2 W) (q : QAt W' (s + 2) r2 A c) (u : Turn (Of (s + 2)) W W') : MQ s g t w r1 r2 A1 c1 A c X1 d1 u1 X2 d2 u2 W' := by
  have hl := h.lt
  obtain ⟨o1, o2⟩ := h.ord
  exact ⟨h.q1.keep u (by unfold Of; omega) (by unfold Of; omega), q, (u.block g (by omega) (by unfold Of; omega)).trans h.ptr, (u.block t hl (by unfold Of; omega)).trans h.row, h.v1.keep fun b hb hlt => u.block b hlt (by unfold Aft at hb; unfold Of; omega), h.v2.keep fun b hb hlt => u.block b hlt (by unfold Aft at hb; unfold Of; omega), h.old.trans (u.below (by omega) (by unfold Of; omega)), h.ord⟩
theorem MQ.turn12 {A B : List Int} {c d : Bool} (h : MQ s g t w r1 r2 A1 c1 A2 c2 X1 d1 u1 X2 d2 u2 W) (q : QAt W' s r1 A c) (q' : QAt W' (s + 2) r2 B d) (u : Turn (Or2 (Of s) (Of (s + 2))) W W') : MQ s g t w r1 r2 A c B d X1 d1 u1 X2 d2 u2 W' := by
  have hl := h.lt
  obtain ⟨o1, o2⟩ := h.ord
  exact ⟨q, q', (u.block g (by omega) (by unfold Or2 Of; omega)).trans h.ptr, (u.block t hl (by unfold Or2 Of; omega)).trans h.row, h.v1.keep fun b hb hlt => u.block b hlt (by unfold Aft at hb; unfold Or2 Of; omega), h.v2.keep fun b hb hlt => u.block b hlt (by unfold Aft at hb; unfold Or2 Of; omega), h.old.trans (u.below (by omega) (by unfold Or2 Of; omega)), h.ord⟩
theorem MQ.facts (h : MQ s g t w r1 r2 A1 c1 A2 c2 X1 d1 u1 X2 d2 u2 W) :
    W.cell? ⟨g, 0, none⟩ = some (.pointer (some ⟨s + 1, 0, none⟩)) ∧ W.cell? ⟨g, 1, none⟩ = some (.pointer (some ⟨s + 2 + 1, 0, none⟩)) ∧
    W.cell? ⟨t, 0, none⟩ = some u1 ∧ W.cell? ⟨t, 1, none⟩ = some (.int .i64 r1) ∧ W.cell? ⟨t, 2, none⟩ = some (.bool d1) ∧ W.cell? ⟨t, 3, none⟩ = some u2 ∧ W.cell? ⟨t, 4, none⟩ = some (.int .i64 r2) ∧ W.cell? ⟨t, 5, none⟩ = some (.bool d2) ∧ (∀ o, W.frozen? ⟨t, o, none⟩ = false) :=
  ⟨by simp [World.cell?, h.ptr], by simp [World.cell?, h.ptr], by simp [World.cell?, h.row], by simp [World.cell?, h.row], by simp [World.cell?, h.row], by simp [World.cell?, h.row], by simp [World.cell?, h.row], by simp [World.cell?, h.row], fun o => by simp [World.frozen?, h.row]⟩
/-- A cell of the reference's row stored. -/
theorem MQ.cell {W : World} (h : MQ s g t w r1 r2 A1 c1 A2 c2 X1 d1 u1 X2 d2 u2 W) (o : Nat) (x : Value) : QAt (W.setCell ⟨t, o, none⟩ x) s r1 A1 c1 ∧ QAt (W.setCell ⟨t, o, none⟩ x) (s + 2) r2 A2 c2 ∧ (W.setCell ⟨t, o, none⟩ x).heap[g]? = some (.cells #[.pointer (some ⟨s + 1, 0, none⟩), .pointer (some ⟨s + 2 + 1, 0, none⟩)] 24 (0, 0)) ∧ Below s w (W.setCell ⟨t, o, none⟩ x) ∧ (∀ v X, RowFrom (Aft t) W v X → RowFrom (Aft t) (W.setCell ⟨t, o, none⟩ x) v X) := by
  have hl := h.lt
  obtain ⟨o1, o2⟩ := h.ord
  have ht : Turn (fun k => k = t) W (W.setCell ⟨t, o, none⟩ x) := ⟨rfl, rfl, rfl, by simp, fun k _ hS => Below.heap_setCell _ _ _ _ (fun e => hS e)⟩
  exact ⟨h.q1.keep ht (by omega) (by omega), h.q2.keep ht (by omega) (by omega), (ht.block g (by omega) (by omega)).trans h.ptr, h.old.setCell (by show s ≤ t; omega) _, fun v X hr => hr.setCell t o x (by unfold Aft; omega)⟩
theorem MQ.setU1 {u : Value} {X : List Int} (h : MQ s g t w r1 r2 A1 c1 A2 c2 X1 d1 u1 X2 d2 u2 W) (hv : RowFrom (Aft t) W u X) : MQ s g t w r1 r2 A1 c1 A2 c2 X d1 u X2 d2 u2 (W.setCell ⟨t, 0, none⟩ u) := by
  obtain ⟨a, b, c, d, e⟩ := h.cell 0 u
  exact ⟨a, b, c, heap_set h.row 0 u, e _ _ hv, e _ _ h.v2, d, h.ord⟩
theorem MQ.setU2 {u : Value} {X : List Int} (h : MQ s g t w r1 r2 A1 c1 A2 c2 X1 d1 u1 X2 d2 u2 W) (hv : RowFrom (Aft t) W u X) : MQ s g t w r1 r2 A1 c1 A2 c2 X1 d1 u1 X d2 u (W.setCell ⟨t, 3, none⟩ u) := by
  obtain ⟨a, b, c, d, e⟩ := h.cell 3 u
  exact ⟨a, b, c, heap_set h.row 3 u, e _ _ h.v1, e _ _ hv, d, h.ord⟩
theorem MQ.setR1 (h : MQ s g t w r1 r2 A1 c1 A2 c2 X1 d1 u1 X2 d2 u2 W) : MQ s g t w r1 r2 A1 c1 A2 c2 X1 d1 u1 X2 d2 u2 (W.setCell ⟨t, 1, none⟩ (.int .i64 r1)) := by
  obtain ⟨a, b, c, d, e⟩ := h.cell 1 (.int .i64 r1)
  exact ⟨a, b, c, heap_set h.row 1 _, e _ _ h.v1, e _ _ h.v2, d, h.ord⟩
theorem MQ.setR2 (h : MQ s g t w r1 r2 A1 c1 A2 c2 X1 d1 u1 X2 d2 u2 W) : MQ s g t w r1 r2 A1 c1 A2 c2 X1 d1 u1 X2 d2 u2 (W.setCell ⟨t, 4, none⟩ (.int .i64 r2)) := by
  obtain ⟨a, b, c, d, e⟩ := h.cell 4 (.int .i64 r2)
  exact ⟨a, b, c, heap_set h.row 4 _, e _ _ h.v1, e _ _ h.v2, d, h.ord⟩
theorem MQ.setD1 (h : MQ s g t w r1 r2 A1 c1 A2 c2 X1 d1 u1 X2 d2 u2 W) (x : Bool) : MQ s g t w r1 r2 A1 c1 A2 c2 X1 x u1 X2 d2 u2 (W.setCell ⟨t, 2, none⟩ (.bool x)) := by
  obtain ⟨a, b, c, d, e⟩ := h.cell 2 (.bool x)
  exact ⟨a, b, c, heap_set h.row 2 _, e _ _ h.v1, e _ _ h.v2, d, h.ord⟩
theorem MQ.setD2 (h : MQ s g t w r1 r2 A1 c1 A2 c2 X1 d1 u1 X2 d2 u2 W) (x : Bool) : MQ s g t w r1 r2 A1 c1 A2 c2 X1 d1 u1 X2 x u2 (W.setCell ⟨t, 5, none⟩ (.bool x)) := by
  obtain ⟨a, b, c, d, e⟩ := h.cell 5 (.bool x)
  exact ⟨a, b, c, heap_set h.row 5 _, e _ _ h.v1, e _ _ h.v2, d, h.ord⟩
end
end Go.Proofs.Ytndhhpiklaffoaa.Mail
