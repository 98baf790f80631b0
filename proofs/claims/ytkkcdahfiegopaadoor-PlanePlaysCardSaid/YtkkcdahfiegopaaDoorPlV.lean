/-
  What the law of plays holds: the plane beside the document's.
-/
import Derived.Test.YtkkcdahfiegopaaDoorPlU
import Derived.Test.YtkkcdahfiegopaaDoorPlCl
namespace Go.Proofs.YtkkcdahfiegopaaDoor.Pl
open Go.RowKit Go.Shelf Base
set_option linter.unusedVariables false
set_option linter.unusedSimpArgs false

theorem rset_no {w : World} {r c cur i : Int} {gx n cap : Nat} {x : Cl} (h : ¬ (0 ≤ i ∧ i < n)) :
    Calls Tryd.prog 13 #[xV r c (.slice (some ⟨gx, 0, none⟩) n cap) cur, .int .i64 i, x.val] w fun e W => e = .returned (xV r c (.slice (some ⟨gx, 0, none⟩) n cap) cur) ∧ Below w.heap.size w W := by
  unfold xV
  obtain ⟨s, hs⟩ : ∃ s, s = w.heap.size := ⟨_, rfl⟩
  obtain ⟨W3, hW3⟩ : ∃ W3, W3 = ((w.alloc (.cells #[.int .i64 r, .int .i64 c, .slice (some ⟨gx, 0, none⟩) n cap, .int .i64 cur] 32)).alloc (.cells #[.int .u8 x.b, .bool x.ge, .bool x.st, .int .u8 x.li, .int .u8 x.co] 36)).alloc (.cells #[.int .i64 0, .int .i64 0, .slice none 0 0, .int .i64 0] 32) := ⟨_, rfl⟩
  have hhas := rhas_any r c cur i (some ⟨gx, 0, none⟩) n cap W3
  rw [decide_eq_false h] at hhas
  unfold xV at hhas
  have HHAS := Lib.hid hhas
  have HW3 := Lib.hid hW3.symm
  have HS := Lib.hid hs
  clear hhas h
  go_enter Tryd.func13, Tryd.ntmps13
  go_wp2_with fail
  rw [HW3.out, ← HS.out]
  refine HHAS.out.mono ?_
  rintro e w4 ⟨rfl, hb4⟩
  rw [hW3] at hb4
  obtain ⟨k1, k2, k3, k4⟩ := boxes3 hb4
  rw [← hs] at k1 k2 k3 k4
  obtain ⟨p0, p1, p2, p3, fz⟩ := blk4 k1
  obtain ⟨q0, q1, q2, q3, fq⟩ := blk4 k3
  have HK3 := Lib.hid k3
  have HK4 := Lib.hid k4
  clear hb4 k1 k2 k3 k4 hW3 hs HW3 HHAS
  go_wp2_with fail
  have hz := lt_of_block HK3.out
  have hX3 := put4_blk HK3.out (.int .i64 r) (.int .i64 c) (.slice (some ⟨gx, 0, none⟩) n cap) (.int .i64 cur)
  have hT := put4_turn w4 (s + 1 + 1) (.int .i64 r) (.int .i64 c) (.slice (some ⟨gx, 0, none⟩) n cap) (.int .i64 cur)
  refine bodyPost_ret (results_cell_row rfl _ _ (s + 1 + 1) 32 _ (0, 0) _ rfl hX3 Tryd.underlying32 rfl size_rp) rfl ?_
  refine ⟨rfl, ?_⟩
  rw [← HS.out]
  exact HK4.out.trans (hT.at_below (by omega) (by omega))
/-- The size's box, the document's plane in a box, its row; the plane. -/
structure VQ (s q : Nat) (w : World) (r c cur curp : Int) (b g gx n cap : Nat) (Lp Lx : List Cl) (W : World) : Prop where
  bs : W.heap[s]? = some (.cells #[.int .i64 r, .int .i64 c] 23 (0, 0))
  bx : W.heap[q]? = some (.cells #[.int .i64 r, .int .i64 c, .slice (some ⟨gx, 0, none⟩) n cap, .int .i64 cur] 32 (0, 0))
  p : PlAt W b g r c curp Lp
  row : W.ownsRow 0 36 5 (.slice (some ⟨gx, 0, none⟩) n cap) n (flatC Lx)
  len : Lx.length = n
  old : Below s w W
  ne : s < b ∧ s < g ∧ s < q ∧ b ≠ q ∧ g ≠ q ∧ gx ≠ b ∧ gx ≠ g ∧ gx ≠ q
section
variable {s q : Nat} {w W W' : World} {r c cur curp : Int} {b g gx n cap : Nat} {Lp Lx : List Cl}
theorem VQ.below (h : VQ s q w r c cur curp b g gx n cap Lp Lx W) (t : Below W.heap.size W W') : VQ s q w r c cur curp b g gx n cap Lp Lx W' :=
  ⟨(t.block _ (lt_of_block h.bs)).trans h.bs, (t.block _ (lt_of_block h.bx)).trans h.bx, h.p.below t, own_below h.row t, h.len, h.old.trans (t.mono (Nat.le_of_lt (lt_of_block h.bs))), h.ne⟩
theorem VQ.drew (h : VQ s q w r c cur curp b g gx n cap Lp Lx W) : VQ s q w r c cur curp b g gx n cap Lp Lx W.drew :=
  ⟨h.bs, h.bx, h.p.drew, own_keep (W := W) h.row (Nat.le_refl _) rfl, h.len, below_drew h.old, h.ne⟩
/-- Behind a call that turns the plane alone. -/
theorem VQ.turn {S : Nat → Prop} {curp' : Int} {Lp' : List Cl} (h : VQ s q w r c cur curp b g gx n cap Lp Lx W) (t : Turn S W W') (hS : ∀ k, S k → k = b ∨ k = g) (hp : PlAt W' b g r c curp' Lp') : VQ s q w r c cur curp' b g gx n cap Lp' Lx W' := by
  obtain ⟨l1, l2, l3, l4, l5, l6, l7, l8⟩ := h.ne
  refine ⟨(t.block _ (lt_of_block h.bs) (fun e => by rcases hS _ e with e | e <;> omega)).trans h.bs, (t.block _ (lt_of_block h.bx) (fun e => by rcases hS _ e with e | e <;> omega)).trans h.bx, hp,
    own_keep h.row t.size (t.block _ (h.row.lt gx rfl).2 (fun e => by rcases hS _ e with e | e <;> omega)), h.len, h.old.trans (t.below (Nat.le_of_lt (lt_of_block h.bs)) (fun k hk => by rcases hS _ hk with e | e <;> omega)), h.ne⟩
/-- Behind the store of another plane of the document's. -/
theorem VQ.put {g' cap' : Nat} {cur' : Int} {Lx' : List Cl} (h : VQ s q w r c cur curp b g gx n cap Lp Lx W) (hr : W.ownsRow 0 36 5 (.slice (some ⟨g', 0, none⟩) n cap') n (flatC Lx')) (hl : Lx'.length = n) (hne : g' ≠ b ∧ g' ≠ g ∧ g' ≠ q) :
    VQ s q w r c cur' curp b g g' n cap' Lp Lx' ((((W.setCell ⟨q, 0, none⟩ (.int .i64 r)).setCell ⟨q, 1, none⟩ (.int .i64 c)).setCell ⟨q, 2, none⟩ (.slice (some ⟨g', 0, none⟩) n cap')).setCell ⟨q, 3, none⟩ (.int .i64 cur')) := by
  obtain ⟨l1, l2, l3, l4, l5, l6, l7, l8⟩ := h.ne
  have hT := put4_turn W q (.int .i64 r) (.int .i64 c) (.slice (some ⟨g', 0, none⟩) n cap') (.int .i64 cur')
  refine ⟨(hT.block _ (lt_of_block h.bs) (by show s ≠ q; omega)).trans h.bs, put4_blk h.bx _ _ _ _, h.p.turn hT (by show b ≠ q; omega) (by show g ≠ q; omega), own_keep hr hT.size (hT.block _ (hr.lt g' rfl).2 (by show g' ≠ q; omega)), hl, h.old.trans (hT.at_below (Nat.le_of_lt (lt_of_block h.bs)) (by omega)), ⟨l1, l2, l3, l4, l5, by omega, by omega, by omega⟩⟩
/-- Behind the store of the cursor. -/
theorem VQ.pointed (h : VQ s q w r c cur curp b g gx n cap Lp Lx W) (i : Int) : VQ s q w r c i curp b g gx n cap Lp Lx (W.setCell ⟨q, 3, none⟩ (.int .i64 i)) := by
  obtain ⟨l1, l2, l3, l4, l5, l6, l7, l8⟩ := h.ne
  have hT := turn_set W q 3 (.int .i64 i)
  exact ⟨(hT.block _ (lt_of_block h.bs) (by show s ≠ q; omega)).trans h.bs, heap_set h.bx 3 _, h.p.turn hT (by show b ≠ q; omega) (by show g ≠ q; omega), own_keep h.row hT.size (hT.block _ (h.row.lt gx rfl).2 (by show gx ≠ q; omega)), h.len, h.old.trans (hT.at_below (Nat.le_of_lt (lt_of_block h.bs)) (by omega)), h.ne⟩
end
end Go.Proofs.YtkkcdahfiegopaaDoor.Pl
