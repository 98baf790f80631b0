/-
  The document's plane: with a cell turned.
-/
import Derived.Test.YtkkcdahfiegopaaDoorPlR
namespace Go.Proofs.YtkkcdahfiegopaaDoor.Pl
open Go.RowKit Go.Shelf Base
set_option linter.unusedVariables false
set_option linter.unusedSimpArgs false

/-- The row of the document's plane, of its own. -/
def XR (base : Nat) (W : World) (gx n cap : Nat) (L : List Cl) : Prop := W.ownsRow 0 36 5 (.slice (some ⟨gx, 0, none⟩) n cap) n (flatC L) ∧ base ≤ gx
theorem boxes3 {w w' : World} {o1 o2 o3 : Obj} (hb : Below (((w.alloc o1).alloc o2).alloc o3).heap.size (((w.alloc o1).alloc o2).alloc o3) w') :
    w'.heap[w.heap.size]? = some o1 ∧ w'.heap[w.heap.size + 1]? = some o2 ∧ w'.heap[w.heap.size + 1 + 1]? = some o3 ∧ Below w.heap.size w w' := by
  have h1 := boxes (w := w) (o1 := o1) (o2 := o2) (w' := w') (((below_alloc ((w.alloc o1).alloc o2) o3).trans (hb.mono (by simp))))
  have h2 := boxes (w := w.alloc o1) (o1 := o2) (o2 := o3) hb
  rw [World.size_alloc] at h2
  exact ⟨h1.1, h1.2.1, h2.2.1, h1.2.2⟩
/-- The append of a row of cells to none. -/
theorem cells_new {w : World} {gx n cap : Nat} {X : List Value} (hr : w.ownsRow 0 36 5 (.slice (some ⟨gx, 0, none⟩) n cap) n X) :
    (w.alloc (.cells #[] 36)).ownsRow w.heap.size 36 5 (.slice (some ⟨w.heap.size, 0, none⟩) 0 0) 0 [] ∧ (∀ (j : Nat) (u : Value), X[j]? = some u → (w.alloc (.cells #[] 36)).cell? ((⟨gx, 0, none⟩ : Addr).add j) = some u) :=
  ⟨⟨rfl, .inr ⟨w.heap.size, 0, #[], rfl, Nat.le_refl _, heap_alloc_new w _, by simp, by simp [maxLen], rfl, by simp⟩⟩, (own_below hr (below_alloc w _)).cells (g := gx) rfl⟩
set_option maxRecDepth 100000 in
set_option maxHeartbeats 4000000 in
theorem rset_any {w : World} {r c cur i : Int} {gx n cap : Nat} {L : List Cl} {x : Cl} (h0 : 0 ≤ i) (h1 : i < n) (hn : n ≤ 4096) (hr : w.ownsRow 0 36 5 (.slice (some ⟨gx, 0, none⟩) n cap) n (flatC L)) (hl : L.length = n) :
    Calls Tryd.prog 13 #[xV r c (.slice (some ⟨gx, 0, none⟩) n cap) cur, .int .i64 i, x.val] w fun e W => ∃ g' cap', e = .returned (xV r c (.slice (some ⟨g', 0, none⟩) n cap') cur) ∧ W.ownsRow 0 36 5 (.slice (some ⟨g', 0, none⟩) n cap') n (flatC (setL L i x)) ∧ w.heap.size ≤ g' ∧ Below w.heap.size w W := by
  unfold xV
  obtain ⟨k, rfl⟩ : ∃ k : Nat, i = k := ⟨i.toNat, by omega⟩
  obtain ⟨i0, hi, hz0, hz1, hz2⟩ := info_parts info_cell
  obtain ⟨s, hs⟩ : ∃ s, s = w.heap.size := ⟨_, rfl⟩
  obtain ⟨W3, hW3⟩ : ∃ W3, W3 = ((w.alloc (.cells #[.int .i64 r, .int .i64 c, .slice (some ⟨gx, 0, none⟩) n cap, .int .i64 cur] 32)).alloc (.cells #[.int .u8 x.b, .bool x.ge, .bool x.st, .int .u8 x.li, .int .u8 x.co] 36)).alloc (.cells #[.int .i64 0, .int .i64 0, .slice none 0 0, .int .i64 0] 32) := ⟨_, rfl⟩
  have hhas := rhas_any r c cur k (some ⟨gx, 0, none⟩) n cap W3
  rw [decide_eq_true ⟨h0, h1⟩] at hhas
  unfold xV at hhas
  have HHAS := Lib.hid hhas
  have HW3 := Lib.hid hW3.symm
  have HS := Lib.hid hs
  have HROW := Lib.hid hr
  have HL := Lib.hid hl
  have hln : (flatC L).length = n * 5 := by rw [flatC_length, hl]
  have HONE := Lib.hid (flatC_one L)
  clear hhas hr hl
  go_enter Tryd.func13, Tryd.ntmps13
  go_wp2_with fail
  rw [HW3.out, ← HS.out]
  refine HHAS.out.mono ?_
  rintro e w4 ⟨rfl, hb4⟩
  rw [hW3] at hb4
  obtain ⟨k1, k2, k3, k4⟩ := boxes3 hb4
  rw [← hs] at k1 k2 k3 k4
  obtain ⟨p0, p1, p2, p3, fz⟩ := blk4 k1
  have z2 := fun ob => cell_later (below_alloc w4 ob) p2
  have HR4 := Lib.hid (own_below HROW.out (by rw [← hs]; exact k4))
  obtain ⟨hraw, hc⟩ := cells_new HR4.out
  have HRAW := Lib.hid hraw
  have HC := Lib.hid hc
  have HK1 := Lib.hid k1
  have HK2 := Lib.hid k2
  have HK3 := Lib.hid k3
  have HK4 := Lib.hid k4
  clear hb4 k1 k2 k3 k4 hW3 hs hraw hc p0 p1 p3 fz HW3 HHAS HROW
  go_upto_region 4 with (at_builtin; refine wpList_append_own _ rfl _ _ 30 rfl w4.heap.size 36 i0 c0.val 5 5 Tryd.underlying30 hi hz0 hz1 hz2 rfl (by decide) _ _ _ rfl HRAW.out ⟨gx, 0, none⟩ n cap (flatC L) rfl hln HC.out HONE.out (by unfold maxLen; omega) (by omega) (by rw [World.size_alloc]; omega) ?_; intro v' w5 hown' hgrow _; rw [Nat.zero_add, List.nil_append] at hown'; obtain ⟨g', cap', rfl, hg'⟩ := own_some hown' (by omega))
  have hz4 : s + 1 + 1 < w4.heap.size := lt_of_block HK3.out
  have hb5 := (below_alloc w4 (.cells #[] 36)).grown hgrow (by rw [World.size_alloc]; omega) (fun k e => by cases e; exact Nat.le_refl _)
  have HK1' := Lib.hid ((hb5.block s (by omega)).trans HK1.out)
  have HK2' := Lib.hid ((hb5.block (s + 1) (by omega)).trans HK2.out)
  have HK3' := Lib.hid ((hb5.block (s + 1 + 1) hz4).trans HK3.out)
  have HK4' := Lib.hid (HK4.out.trans (hb5.mono (by omega)))
  have hz5 : s + 1 + 1 < w5.heap.size := lt_of_block HK3'.out
  have hrow := ownsRow_base hown' (Nat.zero_le _)
  have hfz := fun o => hrow.frozenAt o
  obtain ⟨x0, x1, x2, x3, x4⟩ := cell5 HK2'.out
  obtain ⟨y, hy⟩ : ∃ y, L[k]? = some y := ⟨_, List.getElem?_eq_getElem (by rw [HL.out]; omega)⟩
  obtain ⟨y0, y1, y2, y3, y4⟩ := flatC_get _ k y hy
  have g0 := (hrow.cellAt (k * 5) (by omega)).trans y0
  have g1 := (hrow.cellAt (k * 5 + 1) (by omega)).trans y1
  have g2 := (hrow.cellAt (k * 5 + 2) (by omega)).trans y2
  have g3 := (hrow.cellAt (k * 5 + 3) (by omega)).trans y3
  have g4 := (hrow.cellAt (k * 5 + 4) (by omega)).trans y4
  have HROW := Lib.hid hrow
  clear hb5 HK1 HK2 HK3 HK4 hown' hgrow hrow y0 y1 y2 y3 y4 hy z2 p2 HRAW HC HONE hln HR4
  go_upto_region 5 with fail
  have t5 := turn5 w5 g' (k * 5) (k * 5 + 1) (k * 5 + 2) (k * 5 + 3) (k * 5 + 4) (.int .u8 x.b) (.bool x.ge) (.bool x.st) (.int .u8 x.li) (.int .u8 x.co)
  have s1 := (HROW.out.stored (k * 5) (.int .u8 x.b)).1
  have s2 := (s1.stored (k * 5 + 1) (.bool x.ge)).1
  have s3 := (s2.stored (k * 5 + 2) (.bool x.st)).1
  have s4 := (s3.stored (k * 5 + 3) (.int .u8 x.li)).1
  have s5 := (s4.stored (k * 5 + 4) (.int .u8 x.co)).1
  rw [flatC_set] at s5
  have hsl : setL L k x = L.set k x := by unfold setL; rw [if_pos (by rw [HL.out]; omega)]; rfl
  have HR6 := Lib.hid s5
  have HSL := Lib.hid hsl
  have HK1 := Lib.hid ((t5.block s (by omega) (by show s ≠ g'; omega)).trans HK1'.out)
  have HK3 := Lib.hid ((t5.block (s + 1 + 1) (by omega) (by show s + 1 + 1 ≠ g'; omega)).trans HK3'.out)
  have HK4 := Lib.hid (HK4'.out.trans (t5.at_below (by omega) (by omega)))
  have hgp := (HROW.out.lt g' rfl).2
  obtain ⟨w6, hw6⟩ : ∃ w6, w6 = ((((w5.setCell ⟨g', k * 5, none⟩ (.int .u8 x.b)).setCell ⟨g', k * 5 + 1, none⟩ (.bool x.ge)).setCell ⟨g', k * 5 + 2, none⟩ (.bool x.st)).setCell ⟨g', k * 5 + 3, none⟩ (.int .u8 x.li)).setCell ⟨g', k * 5 + 4, none⟩ (.int .u8 x.co) := ⟨_, rfl⟩
  rw [← hw6] at HR6 HK1 HK3 HK4 ⊢
  obtain ⟨p0, p1, p2, p3, fz⟩ := blk4 HK1.out
  obtain ⟨q0, q1, q2, q3, fq⟩ := blk4 HK3.out
  clear t5 s1 s2 s3 s4 s5 hsl hw6 hfz x0 x1 x2 x3 x4 g0 g1 g2 g3 g4 HK1' HK2' HK3' HK4'
  have hz6 : s + 1 + 1 < w6.heap.size := lt_of_block HK3.out
  go_wp2_with fail
  have hX : Turn (At s) w6 (w6.setCell ⟨s, 2, none⟩ (.slice (some ⟨g', 0, none⟩) n cap')) := turn_set w6 s 2 _
  have hX3 := put4_blk ((hX.block (s + 1 + 1) hz6 (by show s + 1 + 1 ≠ s; omega)).trans HK3.out) (.int .i64 r) (.int .i64 c) (.slice (some ⟨g', 0, none⟩) n cap') (.int .i64 cur)
  have hT := put4_turn (w6.setCell ⟨s, 2, none⟩ (.slice (some ⟨g', 0, none⟩) n cap')) (s + 1 + 1) (.int .i64 r) (.int .i64 c) (.slice (some ⟨g', 0, none⟩) n cap') (.int .i64 cur)
  refine bodyPost_ret (results_cell_row rfl _ _ (s + 1 + 1) 32 _ (0, 0) _ rfl hX3 Tryd.underlying32 rfl size_rp) rfl ?_
  have hgw : g' < w6.heap.size := (HR6.out.lt g' rfl).2
  refine ⟨g', cap', rfl, ?_, by rw [← HS.out]; omega, ?_⟩
  · rw [HSL.out]
    exact own_keep (own_keep HR6.out hX.size (hX.block g' hgw (by show g' ≠ s; omega))) hT.size (hT.block g' (by have := hX.size; omega) (by show g' ≠ s + 1 + 1; omega))
  · rw [← HS.out]
    exact (HK4.out.trans (hX.at_below (by omega) (Nat.le_refl _))).trans (hT.at_below (by have := hX.size; omega) (by omega))
end Go.Proofs.YtkkcdahfiegopaaDoor.Pl
