/-
  The document's plane: with the cells between two places turned.
-/
import Derived.Test.YtkkcdahfiegopaaDoorPlT
namespace Go.Proofs.YtkkcdahfiegopaaDoor.Pl
open Go.RowKit Go.Shelf Base
set_option linter.unusedVariables false
set_option linter.unusedSimpArgs false

/-- What Fill holds: its arguments' boxes, its result's, the places, the cells. -/
structure XF (s : Nat) (w : World) (r c cur : Int) (x : Cl) (v : Value) (gl M capl g' n cap' : Nat) (ps : List Int) (K : List Cl) (W : World) : Prop where
  b1 : W.heap[s]? = some (.cells #[.int .i64 r, .int .i64 c, v, .int .i64 cur] 32 (0, 0))
  b2 : W.heap[s + 1]? = some (.cells #[.int .u8 x.b, .bool x.ge, .bool x.st, .int .u8 x.li, .int .u8 x.co] 36 (0, 0))
  b3 : W.heap[s + 1 + 1]? = some (.cells #[.int .i64 0, .int .i64 0, .slice none 0 0, .int .i64 0] 32 (0, 0))
  lst : W.ownsRow 0 3 1 (.slice (some ⟨gl, 0, none⟩) M capl) M (ps.map (Value.int .i64))
  row : W.ownsRow 0 36 5 (.slice (some ⟨g', 0, none⟩) n cap') n (flatC K)
  old : Below s w W
  lt : s + 1 + 1 < gl ∧ gl < g'
  len : K.length = n
section
variable {s : Nat} {w W W' : World} {r c cur : Int} {x : Cl} {v : Value} {gl M capl g' n cap' : Nat} {ps : List Int} {K : List Cl}
theorem XF.put (h : XF s w r c cur x v gl M capl g' n cap' ps K W) (k : Nat) (hk : k < n) :
    XF s w r c cur x v gl M capl g' n cap' ps (setL K k x) (((((W.setCell ⟨g', k * 5, none⟩ (.int .u8 x.b)).setCell ⟨g', k * 5 + 1, none⟩ (.bool x.ge)).setCell ⟨g', k * 5 + 2, none⟩ (.bool x.st)).setCell ⟨g', k * 5 + 3, none⟩ (.int .u8 x.li)).setCell ⟨g', k * 5 + 4, none⟩ (.int .u8 x.co)) := by
  have t5 := turn5 W g' (k * 5) (k * 5 + 1) (k * 5 + 2) (k * 5 + 3) (k * 5 + 4) (.int .u8 x.b) (.bool x.ge) (.bool x.st) (.int .u8 x.li) (.int .u8 x.co)
  have s1 := (h.row.stored (k * 5) (.int .u8 x.b)).1
  have s2 := (s1.stored (k * 5 + 1) (.bool x.ge)).1
  have s3 := (s2.stored (k * 5 + 2) (.bool x.st)).1
  have s4 := (s3.stored (k * 5 + 3) (.int .u8 x.li)).1
  have s5 := (s4.stored (k * 5 + 4) (.int .u8 x.co)).1
  rw [flatC_set] at s5
  have hsl : setL K k x = K.set k x := by unfold setL; rw [if_pos (by rw [h.len]; omega)]; rfl
  obtain ⟨l1, l2⟩ := h.lt
  have z3 := lt_of_block h.b3
  have zl := (h.lst.lt gl rfl).2
  refine ⟨?_, ?_, ?_, own_keep h.lst t5.size (t5.block gl zl (by show gl ≠ g'; omega)), by rw [hsl]; exact s5, h.old.trans (t5.at_below (by omega) (by omega)), h.lt, by rw [setL_length]; exact h.len⟩
  · rw [t5.block s (by omega) (by show s ≠ g'; omega)]; exact h.b1
  · rw [t5.block (s + 1) (by omega) (by show s + 1 ≠ g'; omega)]; exact h.b2
  · rw [t5.block (s + 1 + 1) (by omega) (by show s + 1 + 1 ≠ g'; omega)]; exact h.b3
theorem XF.drew (h : XF s w r c cur x v gl M capl g' n cap' ps K W) : XF s w r c cur x v gl M capl g' n cap' ps K W.drew :=
  ⟨h.b1, h.b2, h.b3, own_keep (W := W) h.lst (Nat.le_refl _) rfl, own_keep (W := W) h.row (Nat.le_refl _) rfl, below_drew h.old, h.lt, h.len⟩
end
theorem fillL_step (L : List Cl) (ps : List Int) (x : Cl) (j : Nat) (p : Int) (hj : ps[j]? = some p) : setL (fillL L (ps.take j) x) p x = fillL L (ps.take (j + 1)) x := by
  obtain ⟨h, e⟩ := List.getElem?_eq_some_iff.1 hj
  rw [List.take_succ_eq_append_getElem h]
  unfold fillL
  rw [List.foldl_append, e]
  rfl
set_option maxRecDepth 100000 in
set_option maxHeartbeats 4000000 in
theorem rfill_any {w : World} {r c cur : Int} {gx n cap : Nat} {L : List Cl} {x : Cl} (a z : Int) (hcn : cells r c = (n : Nat)) (hn0 : 1 ≤ n) (hn : n ≤ 4096) (hr : w.ownsRow 0 36 5 (.slice (some ⟨gx, 0, none⟩) n cap) n (flatC L)) (hl : L.length = n) :
    Calls Tryd.prog 16 #[xV r c (.slice (some ⟨gx, 0, none⟩) n cap) cur, .int .i64 a, .int .i64 z, x.val] w fun e W => ∃ g' cap', e = .returned (.tuple #[xV r c (.slice (some ⟨g', 0, none⟩) n cap') cur, .int .i64 (betw n a z).length]) ∧ W.ownsRow 0 36 5 (.slice (some ⟨g', 0, none⟩) n cap') n (flatC (fillL L (betw n a z) x)) ∧ w.heap.size ≤ g' ∧ Below w.heap.size w W := by
  unfold xV
  obtain ⟨i0, hi, hz0, hz1, hz2⟩ := info_parts info_cell
  obtain ⟨s, hs⟩ : ∃ s, s = w.heap.size := ⟨_, rfl⟩
  obtain ⟨W3, hW3⟩ : ∃ W3, W3 = ((w.alloc (.cells #[.int .i64 r, .int .i64 c, .slice (some ⟨gx, 0, none⟩) n cap, .int .i64 cur] 32)).alloc (.cells #[.int .u8 x.b, .bool x.ge, .bool x.st, .int .u8 x.li, .int .u8 x.co] 36)).alloc (.cells #[.int .i64 0, .int .i64 0, .slice none 0 0, .int .i64 0] 32) := ⟨_, rfl⟩
  obtain ⟨k1, k2, k3, k4⟩ := boxes3 (w' := W3) (by rw [hW3]; exact Below.refl _ _)
  rw [← hs] at k1 k2 k3 k4
  obtain ⟨p0, p1, p2, p3, fz⟩ := blk4 k1
  have HBT := Lib.hid (rbetween_any r c a z n W3 hcn (by omega) (by omega))
  have hz3 : W3.heap.size = s + 3 := by rw [hW3]; simp; omega
  obtain ⟨ps, hps⟩ : ∃ ps, ps = betw n a z := ⟨_, rfl⟩
  have hpin := betw_in n a z (by omega)
  have hpl := betw_length n a z (by omega)
  rw [← hps] at HBT hpin hpl ⊢
  have HPIN := Lib.hid hpin
  have HW3 := Lib.hid hW3.symm
  have HS := Lib.hid hs
  have HROW := Lib.hid hr
  have HL := Lib.hid hl
  have hln : (flatC L).length = n * 5 := by rw [flatC_length, hl]
  have HONE := Lib.hid (flatC_one L)
  have HK1 := Lib.hid k1
  have HK2 := Lib.hid k2
  have HK3 := Lib.hid k3
  have HK4 := Lib.hid k4
  clear hr hl k1 k2 k3 k4 hpin hps p0 p1 p2 p3 fz
  go_enter Tryd.func16, Tryd.ntmps16
  go_wp2_with fail
  rw [HW3.out, ← HS.out]
  refine HBT.out.mono ?_
  rintro e w4 ⟨gl, capl, rfl, hlst, hb4⟩
  have hgl := hlst.lt gl rfl
  have HK1 := Lib.hid ((hb4.block s (by omega)).trans HK1.out)
  have HK2 := Lib.hid ((hb4.block (s + 1) (by omega)).trans HK2.out)
  have HK3 := Lib.hid ((hb4.block (s + 1 + 1) (by omega)).trans HK3.out)
  have HK4 := Lib.hid (HK4.out.trans (hb4.mono (by omega)))
  have HLST := Lib.hid (ownsRow_base hlst (Nat.zero_le _))
  obtain ⟨p0, p1, p2, p3, fz⟩ := blk4 HK1.out
  have z2 := fun ob => cell_later (below_alloc w4 ob) p2
  have HR4 := Lib.hid (own_below HROW.out (by rw [← HS.out]; exact HK4.out))
  obtain ⟨hraw, hc⟩ := cells_new HR4.out
  have HRAW := Lib.hid hraw
  have HC := Lib.hid hc
  obtain ⟨M, hM⟩ : ∃ M, M = ps.length := ⟨_, rfl⟩
  rw [← hM] at HLST hpl ⊢
  have HMM := Lib.hid hM
  clear hb4 hW3 hs hraw hc p0 p1 p3 fz HW3 HBT HROW hlst hM
  go_upto_region 4 with (at_builtin; refine wpList_append_own _ rfl _ _ 30 rfl w4.heap.size 36 i0 c0.val 5 5 Tryd.underlying30 hi hz0 hz1 hz2 rfl (by decide) _ _ _ rfl HRAW.out ⟨gx, 0, none⟩ n cap (flatC L) rfl hln HC.out HONE.out (by unfold maxLen; omega) (by omega) (by rw [World.size_alloc]; omega) ?_; intro v' w5 hown' hgrow _; rw [Nat.zero_add, List.nil_append] at hown'; obtain ⟨g', cap', rfl, hg'⟩ := own_some hown' (by omega))
  have hb5 := (below_alloc w4 (.cells #[] 36)).grown hgrow (by rw [World.size_alloc]; omega) (fun k e => by cases e; exact Nat.le_refl _)
  have HXF := Lib.hid (show XF s w r c cur x (.slice (some ⟨gx, 0, none⟩) n cap) gl M capl g' n cap' ps (fillL L (ps.take 0) x) w5 from
    ⟨(hb5.block s (by omega)).trans HK1.out, (hb5.block (s + 1) (by omega)).trans HK2.out, (hb5.block (s + 1 + 1) (by omega)).trans HK3.out, own_below HLST.out hb5, ownsRow_base hown' (Nat.zero_le _), HK4.out.trans (hb5.mono (by omega)), ⟨by omega, by omega⟩, HL.out⟩)
  clear hb5 hown' hgrow HK1 HK2 HK3 HK4 HLST z2 p2 HRAW HC HONE hln HR4
  go_wp2_with fail
  go_loopw [12] (fun p wr => ∃ j : Nat, j ≤ M ∧ p = .int .i64 j ∧ XF s w r c cur x (.slice (some ⟨gx, 0, none⟩) n cap) gl M capl g' n cap' ps (fillL L (ps.take j) x) wr) (fun p _ => M - (intOf p).toNat)
  case atStart => exact ⟨0, Nat.zero_le _, rfl, HXF.out⟩
  case round =>
    obtain ⟨j, hj, rfl, hxf⟩ := hrel
    have HX := Lib.hid hxf
    clear hxf HXF
    by_cases hjm : j < M
    · have hji : (j : Int) < (M : Int) := by omega
      obtain ⟨p, hp⟩ : ∃ p, ps[j]? = some p := ⟨_, List.getElem?_eq_getElem (by rw [← HMM.out]; exact hjm)⟩
      obtain ⟨hp0, hp1⟩ := HPIN.out p (List.mem_of_getElem? hp)
      obtain ⟨k, rfl⟩ : ∃ k : Nat, p = k := ⟨p.toNat, by omega⟩
      have hkn : k < n := by omega
      have hl0 : wr.cell? ⟨gl, j, none⟩ = some (.int .i64 k) := by
        have := HX.out.lst.cellAt j (by omega)
        rw [this, List.getElem?_map, hp]; rfl
      obtain ⟨x0, x1, x2, x3, x4⟩ := cell5 HX.out.b2
      obtain ⟨y, hy⟩ : ∃ y, (fillL L (ps.take j) x)[k]? = some y := ⟨_, List.getElem?_eq_getElem (by rw [HX.out.len]; exact hkn)⟩
      obtain ⟨y0, y1, y2, y3, y4⟩ := flatC_get _ k y hy
      have g0 := (HX.out.row.cellAt (k * 5) (by omega)).trans y0
      have g1 := (HX.out.row.cellAt (k * 5 + 1) (by omega)).trans y1
      have g2 := (HX.out.row.cellAt (k * 5 + 2) (by omega)).trans y2
      have g3 := (HX.out.row.cellAt (k * 5 + 3) (by omega)).trans y3
      have g4 := (HX.out.row.cellAt (k * 5 + 4) (by omega)).trans y4
      have hfz := fun o => HX.out.row.frozenAt o
      have hput := HX.out.put k hkn
      rw [fillL_step L ps x j k hp] at hput
      have HP := Lib.hid hput
      clear y0 y1 y2 y3 y4 hy hput hp
      go_wp2_with fail
      go_region
      all_goals go_wp2
      all_goals go_roundw
      case rel => exact ⟨j + 1, by omega, by go_num, HP.out.drew⟩
      case measure => simp [intOf]; omega
    · obtain rfl : j = M := by omega
      obtain ⟨p0, p1, p2, p3, fz⟩ := blk4 HX.out.b1
      obtain ⟨q0, q1, q2, q3, fq⟩ := blk4 HX.out.b3
      have hz6 : s + 1 + 1 < wr.heap.size := lt_of_block HX.out.b3
      go_wp2_with fail
      have hX : Turn (At s) wr (wr.setCell ⟨s, 2, none⟩ (.slice (some ⟨g', 0, none⟩) n cap')) := turn_set wr s 2 _
      have hX3 := put4_blk ((hX.block (s + 1 + 1) hz6 (by show s + 1 + 1 ≠ s; omega)).trans HX.out.b3) (.int .i64 r) (.int .i64 c) (.slice (some ⟨g', 0, none⟩) n cap') (.int .i64 cur)
      have hT := put4_turn (wr.setCell ⟨s, 2, none⟩ (.slice (some ⟨g', 0, none⟩) n cap')) (s + 1 + 1) (.int .i64 r) (.int .i64 c) (.slice (some ⟨g', 0, none⟩) n cap') (.int .i64 cur)
      refine bodyPost_ret (results_ct rfl _ _ (s + 1 + 1) _ rfl (load_rp hX3 rfl)) rfl ?_
      have hgw := (HX.out.row.lt g' rfl).2
      obtain ⟨l1, l2⟩ := HX.out.lt
      refine ⟨g', cap', by rw [← HMM.out]; rfl, ?_, by rw [← HS.out]; omega, ?_⟩
      · have hrow := HX.out.row
        rw [HMM.out, List.take_length] at hrow
        exact own_keep (own_keep hrow hX.size (hX.block g' hgw (by show g' ≠ s; omega))) hT.size (hT.block g' (by have := hX.size; omega) (by show g' ≠ s + 1 + 1; omega))
      · rw [← HS.out]
        exact (HX.out.old.trans (hX.at_below (by omega) (Nat.le_refl _))).trans (hT.at_below (by have := hX.size; omega) (by omega))
end Go.Proofs.YtkkcdahfiegopaaDoor.Pl
