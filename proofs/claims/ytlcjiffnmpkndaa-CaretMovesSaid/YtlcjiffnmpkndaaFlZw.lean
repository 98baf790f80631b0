/-
  The document's plane: has it a place; the laws' own: the same plane?
  The document's plane: with a cell turned.
  The document's places of a field.
  The document's field of a place.
  The document's mark.
  Fields that are marked, plainly.
-/
import Derived.Test.YtlcjiffnmpkndaaFlYw
import Derived.Deep.RegionHeld3
import Derived.Deep.DeepCutAuto
import Derived.Deep.CutRange
import Derived.Test.YtlcjiffnmpkndaaFlPw
namespace Go.Proofs.Ytlcjiffnmpkndaa.Pl
open Go.RowKit Go.Shelf Base
set_option linter.unusedVariables false
set_option linter.unusedSimpArgs false

theorem rhas_any (r c cur i : Int) (a : Option Addr) (n cap : Nat) (w : World) : Calls Try.prog 60 #[xV r c (.slice a n cap) cur, .int .i64 i] w fun e W => e = .returned (.bool (decide (0 ≤ i ∧ i < n))) ∧ Below w.heap.size w W := by
  unfold xV
  have hb := below_alloc w (.cells #[.int .i64 r, .int .i64 c, .slice a n cap, .int .i64 cur] 29)
  have hc := heap_alloc_new w (.cells #[.int .i64 r, .int .i64 c, .slice a n cap, .int .i64 cur] 29)
  obtain ⟨_, _, c2, _⟩ := blk4 hc
  clear hc
  by_cases h0 : 0 ≤ i
  · have h0' : ¬ i < 0 := by omega
    by_cases h1 : i < (n : Int)
    · rw [decide_eq_true ⟨h0, h1⟩]
      go_enter Try.func60, Try.ntmps60
      go_wp2
      go_ret
      exact ⟨rfl, hb⟩
    · rw [decide_eq_false (fun h => h1 h.2)]
      go_enter Try.func60, Try.ntmps60
      go_wp2
      go_ret
      exact ⟨ret_bool (by simp <;> omega), hb⟩
  · rw [decide_eq_false (fun h => h0 h.1)]
    have h0' : i < 0 := by omega
    go_enter Try.func60, Try.ntmps60
    go_wp2
    go_ret
    exact ⟨ret_bool (by simp), hb⟩
/-- What the comparison holds: the document's plane in a box, its row, the plane. -/
structure SQ (s : Nat) (w : World) (r c cur : Int) (b g gx n cap : Nat) (L : List Cl) (W : World) : Prop where
  bx : W.heap[s]? = some (.cells #[.int .i64 r, .int .i64 c, .slice (some ⟨gx, 0, none⟩) n cap, .int .i64 cur] 29 (0, 0))
  p : PlAt W b g r c cur L
  row : W.ownsRow 0 58 5 (.slice (some ⟨gx, 0, none⟩) n cap) n (flatC L)
  old : Below s w W
  len : L.length = n
section
variable {s : Nat} {w W W' : World} {r c cur : Int} {b g gx n cap : Nat} {L : List Cl}
theorem SQ.below (h : SQ s w r c cur b g gx n cap L W) (t : Below W.heap.size W W') : SQ s w r c cur b g gx n cap L W' :=
  ⟨(t.block _ (lt_of_block h.bx)).trans h.bx, h.p.below t, own_below h.row t, h.old.trans (t.mono (Nat.le_of_lt (lt_of_block h.bx))), h.len⟩
theorem SQ.drew (h : SQ s w r c cur b g gx n cap L W) : SQ s w r c cur b g gx n cap L W.drew := ⟨h.bx, h.p.drew, own_keep (W := W) h.row (Nat.le_refl _) rfl, below_drew h.old, h.len⟩
theorem SQ.s4 (h : SQ s w r c cur b g gx n cap L W) : W.cell? ⟨s, 0, none⟩ = some (.int .i64 r) ∧ W.cell? ⟨s, 1, none⟩ = some (.int .i64 c) ∧ W.cell? ⟨s, 2, none⟩ = some (.slice (some ⟨gx, 0, none⟩) n cap) ∧ W.cell? ⟨s, 3, none⟩ = some (.int .i64 cur) ∧ SQ s w r c cur b g gx n cap L W := by
  obtain ⟨a0, a1, a2, a3, _⟩ := blk4 h.bx
  exact ⟨a0, a1, a2, a3, h⟩
theorem SQ.s6 (h : SQ s w r c cur b g gx n cap L W) (k : Nat) (x : Cl) (hx : L[k]? = some x) : W.cell? ⟨s, 2, none⟩ = some (.slice (some ⟨gx, 0, none⟩) n cap) ∧ W.cell? ⟨gx, k * 5, none⟩ = some (.int .u8 x.b) ∧ W.cell? ⟨gx, k * 5 + 1, none⟩ = some (.bool x.ge) ∧ W.cell? ⟨gx, k * 5 + 2, none⟩ = some (.bool x.st) ∧ W.cell? ⟨gx, k * 5 + 3, none⟩ = some (.int .u8 x.li) ∧ W.cell? ⟨gx, k * 5 + 4, none⟩ = some (.int .u8 x.co) ∧ SQ s w r c cur b g gx n cap L W := by
  obtain ⟨_, _, a2, _, _⟩ := blk4 h.bx
  obtain ⟨y0, y1, y2, y3, y4⟩ := flatC_get _ k x hx
  have hk : k < n := by rw [← h.len]; exact (List.getElem?_eq_some_iff.1 hx).1
  exact ⟨a2, (h.row.cellAt (k * 5) (by omega)).trans y0, (h.row.cellAt (k * 5 + 1) (by omega)).trans y1, (h.row.cellAt (k * 5 + 2) (by omega)).trans y2, (h.row.cellAt (k * 5 + 3) (by omega)).trans y3, (h.row.cellAt (k * 5 + 4) (by omega)).trans y4, h⟩
end
end Go.Proofs.Ytlcjiffnmpkndaa.Pl
namespace Go.Proofs.Ytlcjiffnmpkndaa.Pl
open Go.RowKit Go.Shelf Base
set_option linter.unusedVariables false
set_option linter.unusedSimpArgs false

theorem cell5 {W : World} {b : Nat} {x : Cl} (h : W.heap[b]? = some (.cells #[.int .u8 x.b, .bool x.ge, .bool x.st, .int .u8 x.li, .int .u8 x.co] 58 (0, 0))) : C5 W b 0 x :=
  ⟨by simp [World.cell?, h], by simp [World.cell?, h], by simp [World.cell?, h], by simp [World.cell?, h], by simp [World.cell?, h]⟩
/-- The row of the document's plane, of its own. -/
def XR (base : Nat) (W : World) (gx n cap : Nat) (L : List Cl) : Prop := W.ownsRow 0 58 5 (.slice (some ⟨gx, 0, none⟩) n cap) n (flatC L) ∧ base ≤ gx
theorem boxes3 {w w' : World} {o1 o2 o3 : Obj} (hb : Below (((w.alloc o1).alloc o2).alloc o3).heap.size (((w.alloc o1).alloc o2).alloc o3) w') :
    w'.heap[w.heap.size]? = some o1 ∧ w'.heap[w.heap.size + 1]? = some o2 ∧ w'.heap[w.heap.size + 1 + 1]? = some o3 ∧ Below w.heap.size w w' := by
  have h1 := boxes (w := w) (o1 := o1) (o2 := o2) (w' := w') (((below_alloc ((w.alloc o1).alloc o2) o3).trans (hb.mono (by simp))))
  have h2 := boxes (w := w.alloc o1) (o1 := o2) (o2 := o3) hb
  rw [World.size_alloc] at h2
  exact ⟨h1.1, h1.2.1, h2.2.1, h1.2.2⟩
/-- The append of a row of cells to none. -/
theorem cells_new {w : World} {gx n cap : Nat} {X : List Value} (hr : w.ownsRow 0 58 5 (.slice (some ⟨gx, 0, none⟩) n cap) n X) :
    (w.alloc (.cells #[] 58)).ownsRow w.heap.size 58 5 (.slice (some ⟨w.heap.size, 0, none⟩) 0 0) 0 [] ∧ (∀ (j : Nat) (u : Value), X[j]? = some u → (w.alloc (.cells #[] 58)).cell? ((⟨gx, 0, none⟩ : Addr).add j) = some u) :=
  ⟨⟨rfl, .inr ⟨w.heap.size, 0, #[], rfl, Nat.le_refl _, heap_alloc_new w _, by simp, by simp [maxLen], rfl, by simp⟩⟩, (own_below hr (below_alloc w _)).cells (g := gx) rfl⟩
set_option maxRecDepth 100000 in
set_option maxHeartbeats 4000000 in
theorem rset_any {w : World} {r c cur i : Int} {gx n cap : Nat} {L : List Cl} {x : Cl} (h0 : 0 ≤ i) (h1 : i < n) (hn : n ≤ 4096) (hr : w.ownsRow 0 58 5 (.slice (some ⟨gx, 0, none⟩) n cap) n (flatC L)) (hl : L.length = n) :
    Calls Try.prog 114 #[xV r c (.slice (some ⟨gx, 0, none⟩) n cap) cur, .int .i64 i, x.val] w fun e W => ∃ g' cap', e = .returned (xV r c (.slice (some ⟨g', 0, none⟩) n cap') cur) ∧ W.ownsRow 0 58 5 (.slice (some ⟨g', 0, none⟩) n cap') n (flatC (setL L i x)) ∧ w.heap.size ≤ g' ∧ Below w.heap.size w W := by
  unfold xV
  obtain ⟨k, rfl⟩ : ∃ k : Nat, i = k := ⟨i.toNat, by omega⟩
  obtain ⟨i0, hi, hz0, hz1, hz2⟩ := info_parts info_cell
  obtain ⟨s, hs⟩ : ∃ s, s = w.heap.size := ⟨_, rfl⟩
  obtain ⟨W3, hW3⟩ : ∃ W3, W3 = ((w.alloc (.cells #[.int .i64 r, .int .i64 c, .slice (some ⟨gx, 0, none⟩) n cap, .int .i64 cur] 29)).alloc (.cells #[.int .u8 x.b, .bool x.ge, .bool x.st, .int .u8 x.li, .int .u8 x.co] 58)).alloc (.cells #[.int .i64 0, .int .i64 0, .slice none 0 0, .int .i64 0] 29) := ⟨_, rfl⟩
  have hhas := rhas_any r c cur k (some ⟨gx, 0, none⟩) n cap W3
  rw [decide_eq_true ⟨h0, h1⟩] at hhas
  unfold xV at hhas
  have HHAS := Lib.hid hhas
  have HW3 := Lib.hid hW3.symm
  have HS := Lib.hid hs
  have HROW := Lib.hid hr
  have HL := Lib.hid hl
  have hln : (flatC L).length = n * 5 := by rw [flatC_length, hl]
  have HONE := Lib.hid (flatC_one L)
  clear hhas hr hl
  go_enter Try.func114, Try.ntmps114
  go_wp2_with fail
  rw [HW3.out, ← HS.out]
  refine HHAS.out.mono ?_
  rintro e w4 ⟨rfl, hb4⟩
  rw [hW3] at hb4
  obtain ⟨k1, k2, k3, k4⟩ := boxes3 hb4
  rw [← hs] at k1 k2 k3 k4
  obtain ⟨p0, p1, p2, p3, fz⟩ := blk4 k1
  have z2 := fun ob => cell_later (below_alloc w4 ob) p2
  have HR4 := Lib.hid (own_below HROW.out (by rw [← hs]; exact k4))
  obtain ⟨hraw, hc⟩ := cells_new HR4.out
  have HRAW := Lib.hid hraw
  have HC := Lib.hid hc
  have HK1 := Lib.hid k1
  have HK2 := Lib.hid k2
  have HK3 := Lib.hid k3
  have HK4 := Lib.hid k4
  clear hb4 k1 k2 k3 k4 hW3 hs hraw hc p0 p1 p3 fz HW3 HHAS HROW
  go_upto_region 4 with (at_builtin; refine wpList_append_own _ rfl _ _ 24 rfl w4.heap.size 58 i0 c0.val 5 5 Try.underlying24 hi hz0 hz1 hz2 rfl (by decide) _ _ _ rfl HRAW.out ⟨gx, 0, none⟩ n cap (flatC L) rfl hln HC.out HONE.out (by unfold maxLen; omega) (by omega) (by rw [World.size_alloc]; omega) ?_; intro v' w5 hown' hgrow _; rw [Nat.zero_add, List.nil_append] at hown'; obtain ⟨g', cap', rfl, hg'⟩ := own_some hown' (by omega))
  have hz4 : s + 1 + 1 < w4.heap.size := lt_of_block HK3.out
  have hb5 := (below_alloc w4 (.cells #[] 58)).grown hgrow (by rw [World.size_alloc]; omega) (fun k e => by cases e; exact Nat.le_refl _)
  have HK1' := Lib.hid ((hb5.block s (by omega)).trans HK1.out)
  have HK2' := Lib.hid ((hb5.block (s + 1) (by omega)).trans HK2.out)
  have HK3' := Lib.hid ((hb5.block (s + 1 + 1) hz4).trans HK3.out)
  have HK4' := Lib.hid (HK4.out.trans (hb5.mono (by omega)))
  have hz5 : s + 1 + 1 < w5.heap.size := lt_of_block HK3'.out
  have hrow := ownsRow_base hown' (Nat.zero_le _)
  have hfz := fun o => hrow.frozenAt o
  obtain ⟨x0, x1, x2, x3, x4⟩ := cell5 HK2'.out
  obtain ⟨y, hy⟩ : ∃ y, L[k]? = some y := ⟨_, List.getElem?_eq_getElem (by rw [HL.out]; omega)⟩
  obtain ⟨y0, y1, y2, y3, y4⟩ := flatC_get _ k y hy
  have g0 := (hrow.cellAt (k * 5) (by omega)).trans y0
  have g1 := (hrow.cellAt (k * 5 + 1) (by omega)).trans y1
  have g2 := (hrow.cellAt (k * 5 + 2) (by omega)).trans y2
  have g3 := (hrow.cellAt (k * 5 + 3) (by omega)).trans y3
  have g4 := (hrow.cellAt (k * 5 + 4) (by omega)).trans y4
  have HROW := Lib.hid hrow
  clear hb5 HK1 HK2 HK3 HK4 hown' hgrow hrow y0 y1 y2 y3 y4 hy z2 p2 HRAW HC HONE hln HR4
  go_upto_region 5 with fail
  have t5 := turn5 w5 g' (k * 5) (k * 5 + 1) (k * 5 + 2) (k * 5 + 3) (k * 5 + 4) (.int .u8 x.b) (.bool x.ge) (.bool x.st) (.int .u8 x.li) (.int .u8 x.co)
  have s1 := (HROW.out.stored (k * 5) (.int .u8 x.b)).1
  have s2 := (s1.stored (k * 5 + 1) (.bool x.ge)).1
  have s3 := (s2.stored (k * 5 + 2) (.bool x.st)).1
  have s4 := (s3.stored (k * 5 + 3) (.int .u8 x.li)).1
  have s5 := (s4.stored (k * 5 + 4) (.int .u8 x.co)).1
  rw [flatC_set] at s5
  have hsl : setL L k x = L.set k x := by unfold setL; rw [if_pos (by rw [HL.out]; omega)]; rfl
  have HR6 := Lib.hid s5
  have HSL := Lib.hid hsl
  have HK1 := Lib.hid ((t5.block s (by omega) (by show s ≠ g'; omega)).trans HK1'.out)
  have HK3 := Lib.hid ((t5.block (s + 1 + 1) (by omega) (by show s + 1 + 1 ≠ g'; omega)).trans HK3'.out)
  have HK4 := Lib.hid (HK4'.out.trans (t5.at_below (by omega) (by omega)))
  have hgp := (HROW.out.lt g' rfl).2
  obtain ⟨w6, hw6⟩ : ∃ w6, w6 = ((((w5.setCell ⟨g', k * 5, none⟩ (.int .u8 x.b)).setCell ⟨g', k * 5 + 1, none⟩ (.bool x.ge)).setCell ⟨g', k * 5 + 2, none⟩ (.bool x.st)).setCell ⟨g', k * 5 + 3, none⟩ (.int .u8 x.li)).setCell ⟨g', k * 5 + 4, none⟩ (.int .u8 x.co) := ⟨_, rfl⟩
  rw [← hw6] at HR6 HK1 HK3 HK4 ⊢
  obtain ⟨p0, p1, p2, p3, fz⟩ := blk4 HK1.out
  obtain ⟨q0, q1, q2, q3, fq⟩ := blk4 HK3.out
  clear t5 s1 s2 s3 s4 s5 hsl hw6 hfz x0 x1 x2 x3 x4 g0 g1 g2 g3 g4 HK1' HK2' HK3' HK4'
  have hz6 : s + 1 + 1 < w6.heap.size := lt_of_block HK3.out
  go_wp2_with fail
  have hX : Turn (At s) w6 (w6.setCell ⟨s, 2, none⟩ (.slice (some ⟨g', 0, none⟩) n cap')) := turn_set w6 s 2 _
  have hX3 := put4_blk ((hX.block (s + 1 + 1) hz6 (by show s + 1 + 1 ≠ s; omega)).trans HK3.out) (.int .i64 r) (.int .i64 c) (.slice (some ⟨g', 0, none⟩) n cap') (.int .i64 cur)
  have hT := put4_turn (w6.setCell ⟨s, 2, none⟩ (.slice (some ⟨g', 0, none⟩) n cap')) (s + 1 + 1) (.int .i64 r) (.int .i64 c) (.slice (some ⟨g', 0, none⟩) n cap') (.int .i64 cur)
  refine bodyPost_ret (results_cell_row rfl _ _ (s + 1 + 1) 29 _ (0, 0) _ rfl hX3 Try.underlying29 rfl size_rp) rfl ?_
  have hgw : g' < w6.heap.size := (HR6.out.lt g' rfl).2
  refine ⟨g', cap', rfl, ?_, by rw [← HS.out]; omega, ?_⟩
  · rw [HSL.out]
    exact own_keep (own_keep HR6.out hX.size (hX.block g' hgw (by show g' ≠ s; omega))) hT.size (hT.block g' (by have := hX.size; omega) (by show g' ≠ s + 1 + 1; omega))
  · rw [← HS.out]
    exact (HK4.out.trans (hX.at_below (by omega) (Nat.le_refl _))).trans (hT.at_below (by have := hX.size; omega) (by omega))
end Go.Proofs.Ytlcjiffnmpkndaa.Pl
namespace Go.Proofs.Ytlcjiffnmpkndaa.Pl
open Go.RowKit Go.Shelf Base
set_option linter.unusedVariables false
set_option linter.unusedSimpArgs false

def held (N n : Int) : Int := if n < 0 then 0 else if N < n then N else n
theorem held_any (n N : Int) (h0 : 0 ≤ N) (w : World) : Calls Try.prog 117 #[.int .i64 n, .int .i64 0, .int .i64 N] w fun e w' => e = .returned (.int .i64 (held N n)) ∧ w = w' := by
  by_cases h1 : n < 0
  · go_enter Try.func117, Try.ntmps117
    go_wp2
    go_ret
    exact ⟨by unfold held; rw [if_pos h1]; rfl, rfl⟩
  · by_cases h2 : N < n
    · go_enter Try.func117, Try.ntmps117
      go_wp2
      go_ret
      exact ⟨by unfold held; rw [if_neg (show ¬ n < 0 by omega), if_pos h2]; rfl, rfl⟩
    · go_enter Try.func117, Try.ntmps117
      go_wp2
      go_ret
      exact ⟨by unfold held; rw [if_neg (show ¬ n < 0 by omega), if_neg (show ¬ N < n by omega)]; rfl, rfl⟩
/-- A field in a box of the call's own, beside the plane's, and a row of places that grows. -/
structure PcQ (w : World) (s gx n cap : Nat) (r c cur : Int) (L : List Cl) (f : Fd) (v : Value) (m : Nat) (xs : List Value) (W : World) : Prop where
  st : StQ w s gx n cap r c cur L 3 1 v m xs W
  fb : W.heap[s + 1]? = some (.cells #[.int .i64 f.s, .int .i64 f.k, .int .u8 f.a] 99 (0, 0))
section
variable {w W W' : World} {s gx n cap : Nat} {r c cur : Int} {L : List Cl} {f : Fd} {v : Value} {m : Nat} {xs : List Value}
theorem PcQ.below (h : PcQ w s gx n cap r c cur L f v m xs W) (t : Below W.heap.size W W') : PcQ w s gx n cap r c cur L f v m xs W' := ⟨h.st.below t, (t.block _ (lt_of_block h.fb)).trans h.fb⟩
theorem PcQ.cc (h : PcQ w s gx n cap r c cur L f v m xs W) : W.cell? ⟨s, 2, none⟩ = some (.slice (some ⟨gx, 0, none⟩) n cap) ∧ W.cell? ⟨s + 1, 0, none⟩ = some (.int .i64 f.s) ∧ W.cell? ⟨s + 1, 1, none⟩ = some (.int .i64 f.k) :=
  ⟨h.st.q.2.2.1, by simp [World.cell?, h.fb], by simp [World.cell?, h.fb]⟩
theorem PcQ.app (h : PcQ w s gx n cap r c cur L f v m xs W) {W1 w1 : World} (hb : Below W.heap.size W W1) (hgrow : W1.grownBy w1 v.ownBlock) {v' : Value} {m' : Nat} {ys : List Value} (hown : w1.ownsRow 0 3 1 v' m' ys) (hat : v'.ownBlock = v.ownBlock ∨ v'.ownBlock = some W1.heap.size) :
    PcQ w s gx n cap r c cur L f v' m' ys w1 := by
  have t1 : Turn (fun j => v.ownBlock = some j) W w1 := (Turn.of_below hb).grown hgrow (fun k hk => .inr hk)
  refine ⟨h.st.app (by decide) hb hgrow hown hat, (t1.block _ (lt_of_block h.fb) ?_).trans h.fb⟩
  intro e
  obtain ⟨cs, e'⟩ := row_typed h.st.row _ e
  rw [h.fb] at e'; cases e'
end
def Fd.rval (f : Fd) : Value := .agg #[.int .i64 f.s, .int .i64 f.k, .int .u8 f.a]
set_option maxRecDepth 100000 in
set_option maxHeartbeats 4000000 in
theorem rplaces_any {w : World} {gx n cap : Nat} {L : List Cl} (r c cur : Int) (f : Fd) (hx : Rx w gx n cap L) (h0 : 0 ≤ f.s) (h1 : f.s < n) (h2 : 0 ≤ f.k) (h3 : f.k < n) : Calls Try.prog 89 #[xV r c (.slice (some ⟨gx, 0, none⟩) n cap) cur, f.rval] w fun e W =>
    ∃ v, e = .returned v ∧ W.ownsRow 0 3 1 v (placesL n f.s f.k).length (intsV (placesL n f.s f.k)) ∧ Below w.heap.size w W := by
  obtain ⟨i0, hi, hz0, hz1, hz2⟩ := info_parts info_int'
  obtain ⟨W0, hW0⟩ : ∃ W0, W0 = (w.alloc (.cells #[.int .i64 r, .int .i64 c, .slice (some ⟨gx, 0, none⟩) n cap, .int .i64 cur] 29)).alloc (.cells #[.int .i64 f.s, .int .i64 f.k, .int .u8 f.a] 99) := ⟨_, rfl⟩
  have hW0s : W0.heap.size = w.heap.size + 2 := by rw [hW0]; simp
  have hq : PcQ w w.heap.size gx n cap r c cur L f (.slice (some ⟨W0.heap.size, 0, none⟩) 0 0) 0 [] (W0.alloc (.cells #[] 3)) := by
    have hb : Below w.heap.size w W0 := by rw [hW0]; exact (below_alloc _ _).alloc (by simp) _
    have hb0 := boxes (w := w) (o1 := .cells #[.int .i64 r, .int .i64 c, .slice (some ⟨gx, 0, none⟩) n cap, .int .i64 cur] 29) (o2 := .cells #[.int .i64 f.s, .int .i64 f.k, .int .u8 f.a] 99) (w' := W0.alloc (.cells #[] 3)) (by rw [hW0]; exact below_alloc _ _)
    refine ⟨⟨hb0.1, (hx.below hb).below (below_alloc _ _), empty_row W0 _ _, ?_, hb.alloc hb.size _, hx.lt⟩, hb0.2.1⟩
    intro j hj; simp [Value.ownBlock] at hj; omega
  have hn := hx.most
  have hpl : placesL n f.s f.k = first n (f.s + 1) f.k.toNat := by unfold placesL; rw [if_pos (by simp [inL]; omega)]
  rw [hpl]
  obtain ⟨h, hh⟩ : ∃ h : Nat, f.k = h := ⟨f.k.toNat, by omega⟩
  have hht : f.k.toNat = h := by omega
  rw [hht]
  have hhl : held n f.k = h := by unfold held; rw [if_neg (by omega), if_neg (by omega), hh]
  have hhas := rhas_any r c cur f.s (some ⟨gx, 0, none⟩) n cap (W0.alloc (.cells #[] 3))
  rw [decide_eq_true ⟨h0, h1⟩] at hhas
  unfold xV at hhas
  have HHAS := Lib.hid hhas
  have HQ := Lib.hid hq
  have HW0 := Lib.hid hW0.symm
  obtain ⟨a2, b0, b1⟩ := hq.cc
  obtain ⟨a0, a1, _, a3⟩ := hq.st.q
  have HH := Lib.hid (fun w => held_any f.k n (by omega) w)
  rw [hhl] at HH
  have hhn : h < n := by omega
  have HHK := Lib.hid hh
  clear hhas hq hW0 hpl hh hht hhl
  unfold xV Fd.rval
  go_enter Try.func89, Try.ntmps89
  go_wp2_with fail
  rw [HW0.out]
  try rw [hW0s] at HQ HHAS a0 a1 a2 a3 b0 b1
  refine HHAS.out.mono ?_
  rintro e w1 ⟨rfl, hb1⟩
  have HQ1 := Lib.hid (HQ.out.below hb1)
  obtain ⟨d2, e0, e1⟩ := HQ1.out.cc
  have hls : (first n (f.s + 1) 0) = [] := rfl
  clear hb1 a0 a1 a2 a3 b0 b1 HQ HHAS HW0
  go_wp2_with (go_at_call 117; (with_reducible refine (HH.out _).mono ?_); rintro e w2 ⟨rfl, rfl⟩)
  clear d2 e0 e1 hls
  go_loopw [5, 7] (fun p q wr => ∃ (j : Nat) (v : Value), v = p ∧ q = .int .i64 ((j : Int) + 1) ∧ j ≤ h ∧ PcQ w w.heap.size gx n cap r c cur L f v (first n (f.s + 1) j).length (intsV (first n (f.s + 1) j)) wr) (fun _ q _ => h + 1 - (intOf q).toNat)
  case atStart => exact ⟨0, _, rfl, rfl, Nat.zero_le _, by have h := HQ1.out; rw [hW0s] at h; exact h⟩
  case round =>
    obtain ⟨j, v, rfl, rfl, hjh, hs⟩ := hrel
    have HS := Lib.hid hs
    obtain ⟨d2, e0, e1⟩ := hs.cc
    by_cases hj1 : j < h
    · have hj2 : (j : Int) + 1 ≤ (h : Int) := by omega
      have hw : wrap64 (f.s + ((j : Int) + 1)) = f.s + (j + 1) := IntWalk.wrap64_in _ (by omega)
      have hwi : IntKind.i64.wrap (f.s + ((j : Int) + 1)) = f.s + (j + 1) := IntWalk.i64_in _ (by omega)
      have htm : (f.s + ((j : Int) + 1)).tmod n = step n (f.s + 1) j := by
        rw [Int.tmod_eq_emod_of_nonneg (by omega)]; unfold step; congr 1; omega
      have hza : ((n : Int) == 0) = false := by simp; omega
      have hzb : ¬ n = 0 := by omega
      have hzc : ¬ (n : Int) = 0 := by omega
      have ht0 : 0 ≤ step n (f.s + 1) j := Int.emod_nonneg _ (by omega)
      have ht1 : step n (f.s + 1) j < n := Int.emod_lt_of_pos _ (by omega)
      obtain ⟨y, hy⟩ : ∃ y, y = step n (f.s + 1) j := ⟨_, rfl⟩
      rw [← hy] at htm ht0 ht1
      have HY := Lib.hid hy
      have hown := hs.st.row
      have hfl : (first n (f.s + 1) j).length = j := first_length _ _ _
      rw [hfl] at hown
      have hbd : j + 1 ≤ 4096 := by omega
      clear hs hy
      go_wp2_with (at_builtin; go_loud (refine wpList_append_own_at _ rfl _ _ 44 rfl 0 3 i0 (.int .i64 0) 1 8 Try.underlying44 hi hz0 hz1 hz2 rfl (by decide) _ _ _ rfl (hown.alloc _) ⟨wr.heap.size, 0, none⟩ 1 1 [.int .i64 y] rfl rfl (cell_one_new _ _ _) (by simp [Value.oneCell']) (by unfold maxLen; omega) (by omega) (Nat.zero_le _) ?_); intro v1 w2 hown1 hgrow1 _ hat1)
      have HS1 := Lib.hid (HS.out.app (below_alloc _ _) hgrow1 hown1 hat1)
      clear hgrow1 hown1 hat1 hown
      go_roundw
      case rel => exact ⟨j + 1, _, rfl, by go_num, by omega, by rw [first_succ, intsV, List.map_append, List.length_append, ← HY.out, hfl]; exact HS1.out⟩
      case measure => simp [intOf]; omega
    · have hj2 : ¬ (j : Int) + 1 ≤ (h : Int) := by omega
      obtain rfl : j = h := by omega
      clear hs
      go_wp2
      go_ret
      exact ⟨_, rfl, HS.out.st.row, HS.out.st.old⟩
end Go.Proofs.Ytlcjiffnmpkndaa.Pl
namespace Go.Proofs.Ytlcjiffnmpkndaa.Pl
open Go.RowKit Go.Shelf Base
set_option linter.unusedVariables false
set_option linter.unusedSimpArgs false

theorem rflatF_get : ∀ (X : List Fd) (i : Nat) (f : Fd), X[i]? = some f → (flatF X)[i * 3]? = some (.int .i64 f.s) ∧ (flatF X)[i * 3 + 1]? = some (.int .i64 f.k) ∧ (flatF X)[i * 3 + 2]? = some (.int .u8 f.a)
  | [], i, f, h => by simp at h
  | q :: P, 0, f, h => by
    obtain rfl : q = f := by simpa using h
    exact ⟨rfl, rfl, rfl⟩
  | q :: P, i + 1, f, h => by
    have := rflatF_get P i f (by simpa using h)
    rw [show (i + 1) * 3 = i * 3 + 1 + 1 + 1 by omega]
    exact this
theorem of_end {L : List Cl} {a : Int} (h : ∀ f ∈ allL L, a ∉ cellsF L.length f) : ofF L a = fd0 ∧ isF L a = false := by
  have hb : befL L a = -1 := by
    by_cases h0 : 0 ≤ a ∧ a < L.length
    · refine (bef_none h0.1 h0.2).2 ?_
      cases hL : allL L with
      | nil => rfl
      | cons f fs =>
        obtain ⟨h1, h2⟩ := cover h0.1 h0.2 (by rw [hL]; exact List.cons_ne_nil _ _)
        exact absurd h2 (h _ h1)
    · unfold befL backL
      rw [if_neg (by simp [inL]; omega)]; rfl
  exact ⟨by unfold ofF; rw [if_pos hb], by unfold isF; rw [hb]; rfl⟩
theorem of_hit {L : List Cl} {a : Int} {f : Fd} (hf : f ∈ allL L) (ha : a ∈ cellsF L.length f) : ofF L a = f ∧ isF L a = true := by
  obtain ⟨h0, h1, h2, h3⟩ := mem_cells hf ha
  refine ⟨h3, ?_⟩
  obtain ⟨s, s0, _, _, rfl⟩ := mem_allL hf
  unfold isF
  rw [h2, begF_s]
  simp; omega
theorem size_rfd : (Try.prog.info? 99).map (·.size) = some 3 := by kernel_rfl
theorem results_rfd {fn : Func} {p u : Tmp} (h : fn.results = #[.cell p 99, .tmp u]) (tmps : Array Value) (w : World) (g : Nat) (cs : Array Value)
    (hp : tmps.getD p undef = .pointer (some ⟨g, 0, none⟩)) (hg : w.heap[g]? = some (.cells cs 99 (0, 0))) (hi : (Try.prog.info? 99).map (·.size) = some cs.size) :
    (results fn tmps).run Try.prog w = .ok (.tuple #[.agg cs, tmps.getD u undef]) w :=
  results_ct h tmps w g cs hp (run_loadVar_row (P := Try.prog) w g 99 99 cs (0, 0) _ hg Try.underlying99 rfl hi)
/-- What Of holds: the plane in a box, the row of all fields, the answer's cells. -/
structure OfQ (w : World) (s gx n cap : Nat) (r c cur : Int) (L : List Cl) (vl : Value) (m : Nat) (W : World) : Prop where
  bx : W.heap[s]? = some (.cells #[.int .i64 r, .int .i64 c, .slice (some ⟨gx, 0, none⟩) n cap, .int .i64 cur] 29 (0, 0))
  rx : Rx W gx n cap L
  row : W.ownsRow 0 99 3 vl m (flatF (allL L))
  fb : W.heap[s + 1]? = some (.cells #[.int .i64 0, .int .i64 0, .int .u8 0] 99 (0, 0))
  old : Below s w W
section
variable {w W W' : World} {s gx n cap : Nat} {r c cur : Int} {L : List Cl} {vl : Value} {m : Nat}
theorem OfQ.below (h : OfQ w s gx n cap r c cur L vl m W) (t : Below W.heap.size W W') : OfQ w s gx n cap r c cur L vl m W' :=
  ⟨(t.block _ (lt_of_block h.bx)).trans h.bx, h.rx.below t, row_turn h.row (S := fun _ => False) (Turn.of_below t) (fun _ _ => id), (t.block _ (lt_of_block h.fb)).trans h.fb, h.old.trans (t.mono (Nat.le_of_lt (lt_of_block h.bx)))⟩
theorem OfQ.drew (h : OfQ w s gx n cap r c cur L vl m W) : OfQ w s gx n cap r c cur L vl m W.drew := h.below (below_dn W 1)
theorem OfQ.q (h : OfQ w s gx n cap r c cur L vl m W) : W.cell? ⟨s, 0, none⟩ = some (.int .i64 r) ∧ W.cell? ⟨s, 1, none⟩ = some (.int .i64 c) ∧ W.cell? ⟨s, 2, none⟩ = some (.slice (some ⟨gx, 0, none⟩) n cap) ∧ W.cell? ⟨s, 3, none⟩ = some (.int .i64 cur) :=
  ⟨by simp [World.cell?, h.bx], by simp [World.cell?, h.bx], by simp [World.cell?, h.bx], by simp [World.cell?, h.bx]⟩
theorem OfQ.fd {gl capl : Nat} (h : OfQ w s gx n cap r c cur L (.slice (some ⟨gl, 0, none⟩) m capl) m W) {i : Nat} {f : Fd} (hm : m = (allL L).length) (hf : (allL L)[i]? = some f) : W.cell? ⟨gl, i * 3, none⟩ = some (.int .i64 f.s) ∧ W.cell? ⟨gl, i * 3 + 1, none⟩ = some (.int .i64 f.k) ∧ W.cell? ⟨gl, i * 3 + 2, none⟩ = some (.int .u8 f.a) := by
  have hi : i < m := by rw [hm]; exact (List.getElem?_eq_some_iff.1 hf).1
  obtain ⟨f0, f1, f2⟩ := rflatF_get _ i f hf
  exact ⟨(h.row.cellAt _ (by omega)).trans f0, (h.row.cellAt _ (by omega)).trans f1, (h.row.cellAt _ (by omega)).trans f2⟩
theorem OfQ.res (h : OfQ w s gx n cap r c cur L vl m W) (x y : Int) (z : Int) : (((W.setCell ⟨s + 1, 0, none⟩ (.int .i64 x)).setCell ⟨s + 1, 1, none⟩ (.int .i64 y)).setCell ⟨s + 1, 2, none⟩ (.int .u8 z)).heap[s + 1]? = some (.cells #[.int .i64 x, .int .i64 y, .int .u8 z] 99 (0, 0)) ∧
    Below s w (((W.setCell ⟨s + 1, 0, none⟩ (.int .i64 x)).setCell ⟨s + 1, 1, none⟩ (.int .i64 y)).setCell ⟨s + 1, 2, none⟩ (.int .u8 z)) := by
  refine ⟨by rw [heap_set (heap_set (heap_set h.fb 0 _) 1 _) 2 _]; simp, ?_⟩
  have hb := lt_of_block h.bx
  have t := (turn_set W (s + 1) 0 (.int .i64 x)).trans ((turn_set _ (s + 1) 1 (.int .i64 y)).trans (turn_set _ (s + 1) 2 (.int .u8 z)))
  exact h.old.trans (t.at_below (by omega) (by omega))
end
set_option maxRecDepth 100000 in
set_option maxHeartbeats 4000000 in
theorem rof_any {w : World} {gx n cap : Nat} {L : List Cl} (r c cur a : Int) (hx : Rx w gx n cap L) (hbo : BoL L) : Calls Try.prog 63 #[xV r c (.slice (some ⟨gx, 0, none⟩) n cap) cur, .int .i64 a] w fun e W =>
    e = .returned (.tuple #[(ofF L a).rval, .bool (isF L a)]) ∧ Below w.heap.size w W := by
  obtain ⟨W0, hW0⟩ : ∃ W0, W0 = (w.alloc (.cells #[.int .i64 r, .int .i64 c, .slice (some ⟨gx, 0, none⟩) n cap, .int .i64 cur] 29)).alloc (.cells #[.int .i64 0, .int .i64 0, .int .u8 0] 99) := ⟨_, rfl⟩
  have hb0 := boxes (w := w) (o1 := .cells #[.int .i64 r, .int .i64 c, .slice (some ⟨gx, 0, none⟩) n cap, .int .i64 cur] 29) (o2 := .cells #[.int .i64 0, .int .i64 0, .int .u8 0] 99) (w' := W0) (by rw [hW0]; exact Below.refl _ _)
  have hn := hx.most
  have hlen := hx.len
  have hrx0 : Rx W0 gx n cap L := hx.below (by rw [hW0]; exact (below_alloc _ _).alloc (by simp) _)
  have hall := rall_any r c cur hrx0 hbo
  unfold xV at hall
  have HALL := Lib.hid hall
  have HB0 := Lib.hid hb0
  have HRX := Lib.hid hrx0
  have HW0 := Lib.hid hW0.symm
  have HL := Lib.hid hlen
  obtain ⟨m, hm⟩ : ∃ m, m = (allL L).length := ⟨_, rfl⟩
  have hmn : m ≤ n := by have := allK_most L (fun _ => L) L.length; rw [hm, ← hlen]; exact this
  have HMM := Lib.hid hm
  have hc0 : W0.cell? ⟨w.heap.size, 0, none⟩ = some (.int .i64 r) := by simp [World.cell?, hb0.1]
  have hc1 : W0.cell? ⟨w.heap.size, 1, none⟩ = some (.int .i64 c) := by simp [World.cell?, hb0.1]
  have hc2 : W0.cell? ⟨w.heap.size, 2, none⟩ = some (.slice (some ⟨gx, 0, none⟩) n cap) := by simp [World.cell?, hb0.1]
  have hc3 : W0.cell? ⟨w.heap.size, 3, none⟩ = some (.int .i64 cur) := by simp [World.cell?, hb0.1]
  clear hW0 hx hbo hlen hm hb0 hrx0 hall
  unfold xV
  go_enter Try.func63, Try.ntmps63
  go_wp2_with fail
  rw [HW0.out]
  refine HALL.out.mono ?_
  rintro e w1 ⟨vl, rfl, hrow, hb1⟩
  rw [← HMM.out] at hrow
  obtain ⟨al, capl, hvl, hsl⟩ := rrow_shape hrow
  subst hvl
  have HSL := Lib.hid hsl
  have H1 := Lib.hid (show OfQ w w.heap.size gx n cap r c cur L (.slice al m capl) m w1 from
    ⟨(hb1.block _ (lt_of_block HB0.out.1)).trans HB0.out.1, HRX.out.below hb1, hrow, (hb1.block _ (lt_of_block HB0.out.2.1)).trans HB0.out.2.1, HB0.out.2.2.trans (hb1.mono (Nat.le_of_lt (lt_of_block HB0.out.1)))⟩)
  clear hrow hb1 hsl hc0 hc1 hc2 hc3 HALL HW0
  go_wp2_with fail
  go_loopw [7] (fun p wr => ∃ i : Nat, p = .int .i64 i ∧ i ≤ m ∧ OfQ w w.heap.size gx n cap r c cur L (.slice al m capl) m wr ∧ ∀ f ∈ (allL L).take i, a ∉ cellsF L.length f) (fun p _ => m - (intOf p).toNat)
  case atStart => exact ⟨0, rfl, Nat.zero_le _, H1.out, fun f hf => by simp at hf⟩
  case round =>
    obtain ⟨i, rfl, him, hq, hno⟩ := hrel
    have HQ := Lib.hid hq
    have HNO := Lib.hid hno
    clear hno
    by_cases hi1 : i < m
    · have hi2 : (i : Int) < (m : Int) := by omega
      obtain ⟨gl, rfl⟩ := HSL.out (by omega)
      obtain ⟨f, hf⟩ : ∃ f, (allL L)[i]? = some f := ⟨_, List.getElem?_eq_getElem (by rw [← HMM.out]; exact hi1)⟩
      have HF := Lib.hid hf
      have HMEM := Lib.hid (List.mem_of_getElem? hf)
      obtain ⟨e0, e1, e2⟩ := hq.fd HMM.out hf
      have hcell := fun W (h : OfQ w w.heap.size gx n cap r c cur L (.slice (some ⟨gl, 0, none⟩) m capl) m W) => h.fd HMM.out hf
      have HCELL := Lib.hid hcell
      obtain ⟨p, p0, p1, p2, p3⟩ := mem_allL HMEM.out
      have hbd := begF_bd (L := L) (by omega) p
      have hs0 : 0 ≤ f.s ∧ f.s < n := by rw [p3, begF_s, ← HL.out]; exact ⟨p0, p1⟩
      rw [← p3, HL.out] at hbd
      have hfz := fun o => (show wr.frozen? ⟨w.heap.size + 1, o, none⟩ = false by simp [World.frozen?, hq.fb])
      have fb0 : wr.cell? ⟨w.heap.size + 1, 0, none⟩ = some (.int .i64 0) := by simp [World.cell?, hq.fb]
      have fb1 : wr.cell? ⟨w.heap.size + 1, 1, none⟩ = some (.int .i64 0) := by simp [World.cell?, hq.fb]
      have fb2 : wr.cell? ⟨w.heap.size + 1, 2, none⟩ = some (.int .u8 0) := by simp [World.cell?, hq.fb]
      clear hq hf hcell p0 p1 p2 p3
      by_cases hfa : f.s = a
      · have hfe : (f.s == a) = true := by simpa using hfa
        have HOF := Lib.hid (of_hit HMEM.out (a := a) (by rw [← hfa]; exact List.mem_cons_self))
        clear hfa
        go_wp2
        obtain ⟨hh, hbw⟩ := HQ.out.res f.s f.k f.a
        refine bodyPost_ret (results_rfd rfl _ _ (w.heap.size + 1) _ rfl hh size_rfd) rfl ⟨?_, hbw⟩
        rw [HOF.out.1, HOF.out.2]; rfl
      · have hfe : (f.s == a) = false := by simpa using hfa
        have HNE := Lib.hid hfa
        obtain ⟨q0, q1, q2, q3⟩ := HQ.out.q
        obtain ⟨y, hy⟩ : ∃ y, y = placesL n f.s f.k := ⟨_, rfl⟩
        have HPL := fun (X : World) (h : OfQ w w.heap.size gx n cap r c cur L (.slice (some ⟨gl, 0, none⟩) m capl) m X) => rplaces_any r c cur f h.rx hs0.1 hs0.2 hbd.1 hbd.2
        rw [← hy] at HPL
        obtain ⟨lp, hlp⟩ : ∃ lp, lp = y.length := ⟨_, rfl⟩
        rw [← hlp] at HPL
        have HLP := Lib.hid hlp
        unfold xV Fd.rval at HPL
        have HPLC := Lib.hid HPL
        have HY := Lib.hid hy
        have hyl : y.length ≤ 4096 := by rw [hy]; unfold placesL; split <;> simp [first] <;> omega
        have hlp2 : lp ≤ 4096 := by omega
        have HS7 := Lib.hid (fun (X : World) (h : OfQ w w.heap.size gx n cap r c cur L (.slice (some ⟨gl, 0, none⟩) m capl) m X) => show X.cell? ⟨w.heap.size, 0, none⟩ = some (.int .i64 r) ∧ X.cell? ⟨w.heap.size, 1, none⟩ = some (.int .i64 c) ∧ X.cell? ⟨w.heap.size, 2, none⟩ = some (.slice (some ⟨gx, 0, none⟩) n cap) ∧ X.cell? ⟨w.heap.size, 3, none⟩ = some (.int .i64 cur) ∧ X.cell? ⟨gl, i * 3, none⟩ = some (.int .i64 f.s) ∧ X.cell? ⟨gl, i * 3 + 1, none⟩ = some (.int .i64 f.k) ∧ X.cell? ⟨gl, i * 3 + 2, none⟩ = some (.int .u8 f.a) from ⟨h.q.1, h.q.2.1, h.q.2.2.1, h.q.2.2.2, HCELL.out X h⟩)
        clear hfa HPL hy hlp hyl
        go_wp2_with fail
        go_region_held3 (fun X => X.cell? ⟨w.heap.size, 0, none⟩ = some (.int .i64 r) ∧ X.cell? ⟨w.heap.size, 1, none⟩ = some (.int .i64 c) ∧ X.cell? ⟨w.heap.size, 2, none⟩ = some (.slice (some ⟨gx, 0, none⟩) n cap) ∧ X.cell? ⟨w.heap.size, 3, none⟩ = some (.int .i64 cur) ∧ X.cell? ⟨gl, i * 3, none⟩ = some (.int .i64 f.s) ∧ X.cell? ⟨gl, i * 3 + 1, none⟩ = some (.int .i64 f.k) ∧ X.cell? ⟨gl, i * 3 + 2, none⟩ = some (.int .u8 f.a))
          (with_reducible (first | assumption | exact HS7.out _ HQ.out.drew | exact HS7.out _ HR.out))
          (first
            | (go_at_call 89; go_loud (refine (HPLC.out _ HQ.out.drew).mono ?_); rintro e x1 ⟨vp, rfl, hrp, hbp⟩; have HR := Lib.hid (HQ.out.drew.below hbp); have HRP := Lib.hid hrp; clear hrp hbp))
        obtain ⟨ap, capp, hvp, hpp⟩ := rrow_shape HRP.out
        subst hvp
        have HPP := Lib.hid hpp
        have HRP2 := Lib.hid HRP.out
        clear hpp HRP e0 e1 e2 q0 q1 q2 q3 hfz fb0 fb1 fb2
        go_wp2_with fail
        go_loopw [9] (fun p wq => ∃ k : Nat, p = .int .i64 k ∧ k ≤ lp ∧ x1 = wq ∧ ∀ z ∈ y.take k, z ≠ a) (fun p _ => lp - (intOf p).toNat)
        case atStart => exact ⟨0, rfl, Nat.zero_le _, by simp, fun z hz => by simp at hz⟩
        case round =>
          obtain ⟨k, rfl, hkl, rfl, hno⟩ := hrel
          have HNO2 := Lib.hid hno
          clear hno
          by_cases hk1 : k < lp
          · have hk2 : (k : Int) < (lp : Int) := by omega
            obtain ⟨gp, rfl⟩ := HPP.out (by omega)
            obtain ⟨z, hz⟩ : ∃ z, y[k]? = some z := ⟨_, List.getElem?_eq_getElem (by have := HLP.out; omega)⟩
            have hzv : (intsV y)[k]? = some (.int .i64 z) := by unfold intsV; rw [List.getElem?_map, hz]; rfl
            have c0 := (HRP2.out.cellAt k (by omega)).trans hzv
            have HZ := Lib.hid hz
            obtain ⟨e0, e1, e2⟩ := HCELL.out _ HR.out
            have hfz := fun o => (show x1.frozen? ⟨w.heap.size + 1, o, none⟩ = false by simp [World.frozen?, HR.out.fb])
            have fb0 : x1.cell? ⟨w.heap.size + 1, 0, none⟩ = some (.int .i64 0) := by simp [World.cell?, HR.out.fb]
            have fb1 : x1.cell? ⟨w.heap.size + 1, 1, none⟩ = some (.int .i64 0) := by simp [World.cell?, HR.out.fb]
            have fb2 : x1.cell? ⟨w.heap.size + 1, 2, none⟩ = some (.int .u8 0) := by simp [World.cell?, HR.out.fb]
            clear hz hzv
            by_cases hza : z = a
            · have hze : (z == a) = true := by simpa using hza
              have HOF := Lib.hid (of_hit HMEM.out (a := a) (by rw [← hza]; refine List.mem_cons_of_mem _ ?_; rw [HL.out, ← HY.out]; exact List.mem_of_getElem? HZ.out))
              clear hza
              go_wp2
              obtain ⟨hh, hbw⟩ := HR.out.res f.s f.k f.a
              refine bodyPost_ret (results_rfd rfl _ _ (w.heap.size + 1) _ rfl hh size_rfd) rfl ⟨?_, hbw⟩
              rw [HOF.out.1, HOF.out.2]; rfl
            · have hze : (z == a) = false := by simpa using hza
              have HZA := Lib.hid hza
              clear hza
              go_wp2
              go_roundw
              case rel =>
                refine ⟨k + 1, by go_num, by omega, by simp, fun x hx => ?_⟩
                obtain ⟨hk3, hk4⟩ := List.getElem?_eq_some_iff.1 HZ.out
                rw [List.take_succ_eq_append_getElem hk3, List.mem_append] at hx
                rcases hx with hx | hx
                · exact HNO2.out x hx
                · rw [List.mem_singleton.1 hx, hk4]; exact HZA.out
              case measure => simp [intOf]; omega
          · obtain rfl : lp = k := by omega
            have hk2 : ¬ (lp : Int) < (lp : Int) := by omega
            go_wp2
            go_roundw
            case rel =>
              refine ⟨i + 1, by go_num, by omega, HR.out, fun x hx => ?_⟩
              obtain ⟨hi3, hi4⟩ := List.getElem?_eq_some_iff.1 HF.out
              rw [List.take_succ_eq_append_getElem hi3, List.mem_append] at hx
              rcases hx with hx | hx
              · exact HNO.out x hx
              · rw [List.mem_singleton.1 hx, hi4]
                intro hc
                rcases List.mem_cons.1 hc with h | h
                · exact HNE.out h.symm
                · rw [HL.out, ← HY.out] at h
                  exact HNO2.out a (by rw [HLP.out, List.take_length]; exact h) rfl
            case measure => simp [intOf]; omega
    · obtain rfl : m = i := by omega
      have hi2 : ¬ (m : Int) < (m : Int) := by omega
      have HOF := Lib.hid (of_end (L := L) (a := a) (by have h := HNO.out; rwa [HMM.out, List.take_length] at h))
      have hfz := fun o => (show wr.frozen? ⟨w.heap.size + 1, o, none⟩ = false by simp [World.frozen?, hq.fb])
      have fb0 : wr.cell? ⟨w.heap.size + 1, 0, none⟩ = some (.int .i64 0) := by simp [World.cell?, hq.fb]
      have fb1 : wr.cell? ⟨w.heap.size + 1, 1, none⟩ = some (.int .i64 0) := by simp [World.cell?, hq.fb]
      have fb2 : wr.cell? ⟨w.heap.size + 1, 2, none⟩ = some (.int .u8 0) := by simp [World.cell?, hq.fb]
      clear hq
      go_wp2
      obtain ⟨hh, hbw⟩ := HQ.out.res 0 0 0
      refine bodyPost_ret (results_rfd rfl _ _ (w.heap.size + 1) _ rfl hh size_rfd) rfl ⟨?_, hbw⟩
      rw [HOF.out.1, HOF.out.2]; rfl
end Go.Proofs.Ytlcjiffnmpkndaa.Pl
namespace Go.Proofs.Ytlcjiffnmpkndaa.Pl
open Go.RowKit Go.Shelf Base
set_option linter.unusedVariables false
set_option linter.unusedSimpArgs false

/-- What Mark leaves. -/
def mkL (L : List Cl) (a : Int) (on : Bool) : List Cl := if isF L a then modL L (befL L a) on else L
/-- What Mark holds: the plane in a box, the answer's cells. -/
structure MkQ (w : World) (s gx n cap : Nat) (r c cur : Int) (L : List Cl) (W : World) : Prop where
  bx : W.heap[s]? = some (.cells #[.int .i64 r, .int .i64 c, .slice (some ⟨gx, 0, none⟩) n cap, .int .i64 cur] 29 (0, 0))
  rx : Rx W gx n cap L
  rb : W.heap[s + 1]? = some (.cells #[.int .i64 0, .int .i64 0, .slice none 0 0, .int .i64 0] 29 (0, 0))
  old : Below s w W
section
variable {w W W' : World} {s gx n cap : Nat} {r c cur : Int} {L : List Cl}
theorem MkQ.below (h : MkQ w s gx n cap r c cur L W) (t : Below W.heap.size W W') : MkQ w s gx n cap r c cur L W' :=
  ⟨(t.block _ (lt_of_block h.bx)).trans h.bx, h.rx.below t, (t.block _ (lt_of_block h.rb)).trans h.rb, h.old.trans (t.mono (Nat.le_of_lt (lt_of_block h.bx)))⟩
theorem MkQ.turn (h : MkQ w s gx n cap r c cur L W) {b : Nat} (hb : W.heap.size ≤ b) (hb2 : b < W'.heap.size) {W1 : World} (h1 : Below W.heap.size W W') (t : Turn (At b) W' W1) : MkQ w s gx n cap r c cur L W1 :=
  h.below (h1.trans (t.at_below (by omega) hb))
theorem MkQ.q (h : MkQ w s gx n cap r c cur L W) : W.cell? ⟨s, 0, none⟩ = some (.int .i64 r) ∧ W.cell? ⟨s, 1, none⟩ = some (.int .i64 c) ∧ W.cell? ⟨s, 2, none⟩ = some (.slice (some ⟨gx, 0, none⟩) n cap) ∧ W.cell? ⟨s, 3, none⟩ = some (.int .i64 cur) :=
  ⟨by simp [World.cell?, h.bx], by simp [World.cell?, h.bx], by simp [World.cell?, h.bx], by simp [World.cell?, h.bx]⟩
end
set_option maxRecDepth 100000 in
set_option maxHeartbeats 4000000 in
theorem rmark_any {w : World} {gx n cap : Nat} {L : List Cl} (r c cur a : Int) (on : Bool) (hx : Rx w gx n cap L) (hbo : BoL L) : Calls Try.prog 115 #[xV r c (.slice (some ⟨gx, 0, none⟩) n cap) cur, .int .i64 a, .bool on] w fun e W =>
    ∃ g' cap', e = .returned (xV r c (.slice (some ⟨g', 0, none⟩) n cap') cur) ∧ Rx W g' n cap' (mkL L a on) ∧ (g' = gx ∨ w.heap.size ≤ g') ∧ Below w.heap.size w W := by
  obtain ⟨s, hs⟩ : ∃ s, s = w.heap.size := ⟨_, rfl⟩
  obtain ⟨W0, hW0⟩ : ∃ W0, W0 = (w.alloc (.cells #[.int .i64 r, .int .i64 c, .slice (some ⟨gx, 0, none⟩) n cap, .int .i64 cur] 29)).alloc (.cells #[.int .i64 0, .int .i64 0, .slice none 0 0, .int .i64 0] 29) := ⟨_, rfl⟩
  have hb0 := boxes (w := w) (o1 := .cells #[.int .i64 r, .int .i64 c, .slice (some ⟨gx, 0, none⟩) n cap, .int .i64 cur] 29) (o2 := .cells #[.int .i64 0, .int .i64 0, .slice none 0 0, .int .i64 0] 29) (w' := W0) (by rw [hW0]; exact Below.refl _ _)
  rw [← hs] at hb0
  have hn := hx.most
  have hrx0 : Rx W0 gx n cap L := hx.below (by rw [hW0]; exact (below_alloc _ _).alloc (by simp) _)
  have H0 := Lib.hid (show MkQ w s gx n cap r c cur L W0 from ⟨hb0.1, hrx0, hb0.2.1, by rw [hs]; rw [hs] at hb0; exact hb0.2.2⟩)
  have hof := rof_any r c cur a hrx0 hbo
  unfold xV at hof
  obtain ⟨f, hf⟩ : ∃ f, f = ofF L a := ⟨_, rfl⟩
  rw [← hf] at hof
  have HF := Lib.hid hf
  have HS := Lib.hid hs
  have HW0 := Lib.hid hW0.symm
  obtain ⟨q0, q1, q2, q3⟩ := H0.out.q
  clear hW0 hb0 hrx0 hf hs
  unfold xV
  cases hi : isF L a with
  | false =>
    have HI := Lib.hid hi
    rw [hi] at hof
    unfold Fd.rval at hof
    have HOF := Lib.hid hof
    clear hof hi
    go_enter Try.func115, Try.ntmps115
    go_wp2_with fail
    rw [HW0.out, ← HS.out]
    go_upto_region 2 with (go_at_call 63; go_loud (refine HOF.out.mono ?_); rintro e w1 ⟨rfl, hb1⟩; have H1 := Lib.hid (H0.out.below hb1); clear hb1)
    have H2 := Lib.hid (H1.out.below (below_alloc w1 (.cells #[.int .i64 f.s, .int .i64 f.k, .int .u8 f.a] 99)))
    obtain ⟨w2, hw2⟩ : ∃ w2, w2 = w1.alloc (.cells #[.int .i64 f.s, .int .i64 f.k, .int .u8 f.a] 99) := ⟨_, rfl⟩
    rw [← hw2] at H2 ⊢
    obtain ⟨p0, p1, p2, p3, fz⟩ := blk4 H2.out.bx
    obtain ⟨r0, r1, r2, r3, fq⟩ := blk4 H2.out.rb
    clear hw2 q0 q1 q2 q3
    go_wp2_with fail
    have hz := lt_of_block H2.out.rb
    have hX3 := put4_blk H2.out.rb (.int .i64 r) (.int .i64 c) (.slice (some ⟨gx, 0, none⟩) n cap) (.int .i64 cur)
    have hT := put4_turn w2 (s + 1) (.int .i64 r) (.int .i64 c) (.slice (some ⟨gx, 0, none⟩) n cap) (.int .i64 cur)
    have hTb : Below w2.heap.size w2 w2 := Below.refl _ _
    refine bodyPost_ret (results_cell_row rfl _ _ (s + 1) 29 _ (0, 0) _ rfl hX3 Try.underlying29 rfl size_rp) rfl ?_
    refine ⟨gx, cap, rfl, ?_, .inl rfl, ?_⟩
    · unfold mkL; rw [HI.out]
      have hg := H2.out.rx.lt
      exact ⟨own_keep H2.out.rx.row hT.size (hT.block gx hg (by
        intro e
        obtain ⟨cs, e'⟩ := row_typed H2.out.rx.row gx rfl
        have e2 : gx = s + 1 := e
        rw [e2, H2.out.rb] at e'; cases e')), H2.out.rx.len, H2.out.rx.most⟩
    · rw [← HS.out]; exact H2.out.old.trans (hT.at_below (by omega) (by omega))
  | true =>
    have HI := Lib.hid hi
    rw [hi] at hof
    unfold Fd.rval at hof
    have HOF := Lib.hid hof
    obtain ⟨p, hp⟩ : ∃ p : Nat, f.s = p := by
      have h := bef_range (L := L) (by have := hx.len; omega) a
      unfold isF at hi
      have hne : befL L a ≠ -1 := by simpa using hi
      have hfs : f.s = befL L a := by rw [HF.out]; unfold ofF; rw [if_neg hne]; rfl
      exact ⟨f.s.toNat, by omega⟩
    have hpn : p < n ∧ befL L a = p := by
      have h := bef_range (L := L) (by have := hx.len; omega) a
      have hne : befL L a ≠ -1 := by unfold isF at hi; simpa using hi
      have hfs : f.s = befL L a := by rw [HF.out]; unfold ofF; rw [if_neg hne]; rfl
      have := hx.len
      constructor <;> omega
    obtain ⟨hpn, hbe⟩ := hpn
    have hpi : (p : Int) < (n : Int) := by omega
    have HBE := Lib.hid hbe
    obtain ⟨x, hx'⟩ : ∃ x, L[p]? = some x := ⟨_, List.getElem?_eq_getElem (by rw [hx.len]; exact hpn)⟩
    have HAT := Lib.hid (atL_yes hx')
    have HXP := Lib.hid hx'
    have hxb := hbo p
    rw [HAT.out] at hxb
    have hlenL := hx.len
    have HLN := Lib.hid hlenL
    obtain ⟨fs, fk, fa⟩ := f
    simp only at hp HOF
    subst hp
    have HRM := Lib.hid (fun W => Attr.rmodify_any x.b W hxb.1 hxb.2 on)
    clear hof hi hbe hx hbo hx' hlenL hxb
    go_enter Try.func115, Try.ntmps115
    go_wp2_with fail
    rw [HW0.out, ← HS.out]
    go_upto_region 4 with (go_at_call 63; go_loud (refine HOF.out.mono ?_); rintro e w1 ⟨rfl, hb1⟩; have H1 := Lib.hid (H0.out.below hb1); clear hb1)
    have H2 := Lib.hid (H1.out.below (below_alloc w1 (.cells #[.int .i64 p, .int .i64 fk, .int .u8 fa] 99)))
    have hF := heap_alloc_new w1 (.cells #[.int .i64 p, .int .i64 fk, .int .u8 fa] 99)
    obtain ⟨w2, hw2⟩ : ∃ w2, w2 = w1.alloc (.cells #[.int .i64 p, .int .i64 fk, .int .u8 fa] 99) := ⟨_, rfl⟩
    obtain ⟨F, hFe⟩ : ∃ F, F = w1.heap.size := ⟨_, rfl⟩
    rw [← hw2] at H2 hF ⊢
    rw [← hFe] at hF ⊢
    have HFB := Lib.hid hF
    have f0 : w2.cell? ⟨F, 0, none⟩ = some (.int .i64 p) := by simp [World.cell?, hF]
    obtain ⟨p0, p1, p2, p3, fz⟩ := blk4 H2.out.bx
    obtain ⟨c0, c1, c2, c3, c4⟩ := H2.out.rx.five HXP.out
    clear hw2 hFe hF q0 q1 q2 q3
    go_upto_region 6 with (go_at_call 142; go_loud ((with_reducible refine (HRM.out _).mono ?_); rintro e w' ⟨rfl, rfl⟩))
    have H3 := Lib.hid (H2.out.below (below_alloc w2 (.cells #[.int .u8 (Attr.modify x.b on), .bool x.ge, .bool x.st, .int .u8 x.li, .int .u8 x.co] 58)))
    have hC := heap_alloc_new w2 (.cells #[.int .u8 (Attr.modify x.b on), .bool x.ge, .bool x.st, .int .u8 x.li, .int .u8 x.co] 58)
    have hF3 := ((below_alloc w2 (.cells #[.int .u8 (Attr.modify x.b on), .bool x.ge, .bool x.st, .int .u8 x.li, .int .u8 x.co] 58)).block F (lt_of_block HFB.out)).trans HFB.out
    obtain ⟨w3, hw3⟩ : ∃ w3, w3 = w2.alloc (.cells #[.int .u8 (Attr.modify x.b on), .bool x.ge, .bool x.st, .int .u8 x.li, .int .u8 x.co] 58) := ⟨_, rfl⟩
    obtain ⟨C, hCe⟩ : ∃ C, C = w2.heap.size := ⟨_, rfl⟩
    rw [← hw3] at H3 hC hF3 ⊢
    rw [← hCe] at hC ⊢
    have g0 : w3.cell? ⟨F, 0, none⟩ = some (.int .i64 p) := by simp [World.cell?, hF3]
    obtain ⟨x0, x1, x2, x3, x4⟩ := cell5 (x := modC x on) hC
    simp only [modC] at x0 x1 x2 x3 x4
    obtain ⟨t0, t1, t2, t3⟩ := H3.out.q
    have hset := rset_any (r := r) (c := c) (cur := cur) (i := p) (x := modC x on) (by omega) hpi hn H3.out.rx.row H3.out.rx.len
    simp only [modC, Cl.val, xV] at hset
    have HSET := Lib.hid hset
    clear hw3 hCe hC hF3 hset f0 p0 p1 p2 p3 fz c0 c1 c2 c3 c4
    go_wp2_with (go_at_call 114; go_loud ((with_reducible refine HSET.out.mono ?_); rintro e w4 ⟨g', cap', rfl, hr4, hg4, hb4⟩; have H4 := Lib.hid (H3.out.below hb4); have HR4 := Lib.hid hr4; obtain ⟨r0, r1, r2, r3, fq⟩ := blk4 H4.out.rb; have HG4 := Lib.hid hg4; clear hr4 hb4 hg4))
    have hz := lt_of_block H4.out.rb
    have hX3 := put4_blk H4.out.rb (.int .i64 r) (.int .i64 c) (.slice (some ⟨g', 0, none⟩) n cap') (.int .i64 cur)
    have hT := put4_turn w4 (s + 1) (.int .i64 r) (.int .i64 c) (.slice (some ⟨g', 0, none⟩) n cap') (.int .i64 cur)
    refine bodyPost_ret (results_cell_row rfl _ _ (s + 1) 29 _ (0, 0) _ rfl hX3 Try.underlying29 rfl size_rp) rfl ?_
    refine ⟨g', cap', rfl, ?_, .inr (by have := HG4.out; have := H3.out.old.size; omega), ?_⟩
    · have hmk : mkL L a on = setL L p (modC x on) := by unfold mkL; rw [HI.out, if_pos rfl, HBE.out]; unfold modL; rw [HAT.out]
      rw [hmk]
      have hg := (HR4.out.lt g' rfl).2
      refine ⟨own_keep HR4.out hT.size (hT.block g' hg (by
        intro e
        obtain ⟨cs, e'⟩ := row_typed HR4.out g' rfl
        have e2 : g' = s + 1 := e
        rw [e2, H4.out.rb] at e'; cases e')), ?_, hn⟩
      rw [setL_length]; exact HLN.out
    · rw [← HS.out]; exact H4.out.old.trans (hT.at_below (by omega) (by omega))
end Go.Proofs.Ytlcjiffnmpkndaa.Pl
namespace Go.Proofs.Ytlcjiffnmpkndaa.Pl
open Go.RowKit Go.Shelf Base
set_option linter.unusedVariables false
set_option linter.unusedSimpArgs false

theorem mk_true (L : List Cl) (a : Int) : mkL L a true = markL L a := by
  unfold mkL markL isF
  by_cases h : befL L a = -1 <;> simp [h]
theorem mark_bo {L : List Cl} (h : BoL L) (a : Int) : BoL (markL L a) := by
  unfold markL; split
  · exact h
  · exact modL_bo h _ _
theorem mark_length (L : List Cl) (a : Int) : (markL L a).length = L.length := by
  unfold markL; split
  · rfl
  · exact modL_length _ _ _
theorem first_cong {L M : List Cl} (hs : ∀ i, (atL M i).st = (atL L i).st) (xs : List Int) : firstL M xs = firstL L xs := by
  unfold firstL
  rw [show (fun p => (atL M p).st) = fun p => (atL L p).st from funext hs]
theorem aft_cong {L M : List Cl} (hs : ∀ i, (atL M i).st = (atL L i).st) (hl : M.length = L.length) (s : Int) : aftL M s = aftL L s := by
  unfold aftL; rw [first_cong hs, hl]
theorem bef_cong {L M : List Cl} (hs : ∀ i, (atL M i).st = (atL L i).st) (hl : M.length = L.length) (s : Int) : befL M s = befL L s := by
  unfold befL; rw [first_cong hs, hl]
theorem modC_twice (x : Cl) : modC (modC x false) false = modC x false := by
  unfold modC Attr.modify; simp
theorem unm_at {L : List Cl} (hB : BoL L) {s : Int} (h0 : 0 ≤ s) (h1 : s < L.length) (pre : List Fd) : ∀ (n : Nat), n ≤ pre.length →
    atL (unmL L (pre.take n)) s = if (pre.take n).any (fun f => Attr.modi f.a && f.s == s) then modC (atL L s) false else atL L s
  | 0, _ => by simp [unmL]
  | n + 1, hn => by
    have ih := unm_at hB h0 h1 pre n (by omega)
    have hl := (unmL_keeps L hB (pre.take n)).2.1
    rw [List.take_succ_eq_append_getElem (show n < pre.length by omega), unmL_snoc, List.any_append]
    simp only [List.any_cons, List.any_nil, Bool.or_false]
    cases hm : Attr.modi (pre[n]).a with
    | false => simp only [Bool.false_and, Bool.or_false, Bool.false_eq_true, if_false]; exact ih
    | true =>
      simp only [if_true, Bool.true_and]
      unfold modL
      rw [atL_setL]
      by_cases he : (pre[n]).s = s
      · rw [if_pos ⟨he.symm, by omega, by rw [hl]; omega⟩, he, ih]
        have hss : (s == s) = true := by simp
        simp only [hss, Bool.or_true, if_true]
        split
        · exact modC_twice _
        · rfl
      · rw [if_neg (fun h => he h.1.symm), ih]
        have : ((pre[n]).s == s) = false := by simpa using he
        rw [this, Bool.or_false]
theorem unm_at' {L : List Cl} (hB : BoL L) {s : Int} (h0 : 0 ≤ s) (h1 : s < L.length) (pre : List Fd) :
    atL (unmL L pre) s = if pre.any (fun f => Attr.modi f.a && f.s == s) then modC (atL L s) false else atL L s := by
  have h := unm_at hB h0 h1 pre pre.length (Nat.le_refl _)
  rwa [List.take_length] at h
theorem unmF_eq {L : List Cl} (hB : BoL L) : ∀ i : Nat, allK L (unmL L) i = allK L (fun _ => L) i
  | 0 => rfl
  | i + 1 => by
    have ih := unmF_eq hB i
    cases hs : (atL L i).st with
    | false => rw [allK_succ_no hs, allK_succ_no hs, ih]
    | true =>
      rw [allK_succ_yes hs, allK_succ_yes hs, ih]
      congr 1
      have hi : (i : Int) < L.length := by
        by_cases h : (i : Int) < L.length
        · exact h
        · unfold atL at hs; rw [if_neg (by omega)] at hs; simp [c0] at hs
      obtain ⟨k1, k2, k3⟩ := unmL_keeps L hB (allK L (fun _ => L) i)
      have hat : atL (unmL L (allK L (fun _ => L) i)) i = atL L i := by
        rw [unm_at' hB (by omega) hi, if_neg]
        intro h
        obtain ⟨f, hf, hb⟩ := List.any_eq_true.1 h
        obtain ⟨j, hj, _, _, hfe⟩ := mem_allK _ _ hf
        simp at hb
        have : f.s = j := by rw [hfe]; rfl
        omega
      unfold begF
      rw [aft_cong k1 k2, k2, hat]
theorem unmF_all {L : List Cl} (hB : BoL L) : unmF L = allL L := unmF_eq hB L.length
theorem unm_none {L : List Cl} (hB : BoL L) : unmN (unmF (unmL L (allL L))) = 0 := by
  obtain ⟨k1, k2, k3⟩ := unmL_keeps L hB (allL L)
  rw [unmF_all k3]
  unfold unmN
  rw [List.length_eq_zero_iff, List.filter_eq_nil_iff]
  intro f hf
  obtain ⟨s, h0, h1, hs, rfl⟩ := mem_allL hf
  rw [k2] at h1
  rw [k1] at hs
  have hin : begF L s ∈ allL L := by
    obtain ⟨p, rfl⟩ : ∃ p : Nat, s = p := ⟨s.toNat, by omega⟩
    exact in_allK hs _ (by omega)
  have hat := unm_at' hB h0 h1 (allL L)
  have hb := hB s
  show ¬ Attr.modi ((atL (unmL L (allL L)) s).b % 64) = true
  rw [hat]
  unfold Attr.modi
  split
  · unfold modC Attr.modify; simp <;> omega
  · next h =>
    intro hm
    apply h
    refine List.any_eq_true.2 ⟨_, hin, ?_⟩
    show (decide ((atL L s).b % 64 % 2 = 1) && (s == s)) = true
    simpa using hm
theorem mk_false {L : List Cl} (hB : BoL L) (pre : List Fd) {f : Fd} (hf : f ∈ allL L) : mkL (unmL L pre) f.s false = modL (unmL L pre) f.s false := by
  obtain ⟨k1, k2, k3⟩ := unmL_keeps L hB pre
  obtain ⟨s, h0, h1, hs, rfl⟩ := mem_allL hf
  have hb : befL (unmL L pre) s = s := by rw [bef_cong k1 k2]; exact bef_self h0 h1 hs
  rw [begF_s]
  unfold mkL isF
  rw [hb, if_pos (by simp <;> omega)]
end Go.Proofs.Ytlcjiffnmpkndaa.Pl
