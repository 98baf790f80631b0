/-
  The contract of a subnegotiation's event.
-/
import Derived.Test.YtimidoaafllnkaaDec
namespace Go.Proofs.Ytimidoaafllnkaa.Iac
open Go.RowKit Base
set_option linter.unusedVariables false

theorem boxed_facts {w : World} {g : Nat} {x0 x1 x2 x3 : Value} (h : w.heap[g]? = some (.cells #[x0, x1, x2, x3] 26 (0, 0))) :
    (w.cell? ⟨g, 0, none⟩ = some x0 ∧ w.cell? ⟨g, 1, none⟩ = some x1 ∧ w.cell? ⟨g, 2, none⟩ = some x2 ∧ w.cell? ⟨g, 3, none⟩ = some x3) ∧ ∀ o, w.frozen? ⟨g, o, none⟩ = false := by
  refine ⟨⟨?_, ?_, ?_, ?_⟩, fun o => ?_⟩ <;> simp [World.cell?, World.frozen?, h]
/-- Four cells stored into a box. -/
def put4 (w : World) (g : Nat) (x0 x1 x2 x3 : Value) : World := (((w.setCell ⟨g, 0, none⟩ x0).setCell ⟨g, 1, none⟩ x1).setCell ⟨g, 2, none⟩ x2).setCell ⟨g, 3, none⟩ x3
theorem put4_heap {w : World} {g : Nat} {y0 y1 y2 y3 : Value} (h : w.heap[g]? = some (.cells #[y0, y1, y2, y3] 26 (0, 0))) (x0 x1 x2 x3 : Value) : (put4 w g x0 x1 x2 x3).heap[g]? = some (.cells #[x0, x1, x2, x3] 26 (0, 0)) := by
  have := heap_set (heap_set (heap_set (heap_set h 0 x0) 1 x1) 2 x2) 3 x3
  simpa [put4] using this
theorem put4_other (w : World) (g : Nat) (x0 x1 x2 x3 : Value) (k : Nat) (h : k ≠ g) : (put4 w g x0 x1 x2 x3).heap[k]? = w.heap[k]? := by
  unfold put4
  rw [Below.heap_setCell _ _ _ _ h, Below.heap_setCell _ _ _ _ h, Below.heap_setCell _ _ _ _ h, Below.heap_setCell _ _ _ _ h]
theorem put4_cell {w : World} {g b o : Nat} {x : Value} (hne : b ≠ g) (h : w.cell? ⟨b, o, none⟩ = some x) (x0 x1 x2 x3 : Value) : ((((w.setCell ⟨g, 0, none⟩ x0).setCell ⟨g, 1, none⟩ x1).setCell ⟨g, 2, none⟩ x2).setCell ⟨g, 3, none⟩ x3).cell? ⟨b, o, none⟩ = some x :=
  (cell_block (put4_other w g x0 x1 x2 x3 b hne) o).trans h
theorem put4_below {s : Nat} {w0 w : World} {g : Nat} (h : Below s w0 w) (hg : s ≤ g) (x0 x1 x2 x3 : Value) : Below s w0 (put4 w g x0 x1 x2 x3) :=
  (((h.setCell (p := ⟨g, 0, none⟩) hg _).setCell (p := ⟨g, 1, none⟩) hg _).setCell (p := ⟨g, 2, none⟩) hg _).setCell (p := ⟨g, 3, none⟩) hg _
set_option maxRecDepth 100000 in
set_option maxHeartbeats 4000000 in
theorem event_any {w : World} {b : Nat} {D : Dec} (h : DecAt w b D) :
    Calls Try.prog 132 #[.pointer (some ⟨b, 2, none⟩)] w fun e w' => ∃ u, e = .returned (.agg #[.int .i64 (eventE D).kind, .int .u8 (eventE D).code, .int .u8 (eventE D).option, u]) ∧ OwnBytes w.heap.size w' u (eventE D).bytes ∧ Below w.heap.size w w' := by
  have hz := (zero_of_info (v := .agg #[.int .i64 0, .int .u8 0, .int .u8 0, .slice none 0 0]) (n := 4) (P := Try.prog) (t := 26) (by kernel_rfl)).1
  obtain ⟨W, hW⟩ : ∃ W, W = w.alloc (.cells #[.int .i64 0, .int .u8 0, .int .u8 0, .slice none 0 0] 26) := ⟨_, rfl⟩
  have hb := below_alloc w (.cells #[.int .i64 0, .int .u8 0, .int .u8 0, .slice none 0 0] 26)
  have hblk : W.heap[w.heap.size]? = some (.cells #[.int .i64 0, .int .u8 0, .int .u8 0, .slice none 0 0] 26 (0, 0)) := by rw [hW]; exact heap_alloc_new w _
  have hzz : W.heap.size = w.heap.size + 1 := by rw [hW, World.size_alloc]
  rw [← hW] at hb
  have k := h.below hb
  have hlt := h.lt
  obtain ⟨_, _, c2, c3, _, c5⟩ := k.cell
  have HK := Lib.hid k
  have HKD : Hid (DecAt W.drew b D) := Lib.hid (show DecAt W.drew b D from k)
  have HW := Lib.hid hW.symm
  have HB := Lib.hid hb
  have HBK := Lib.hid hblk
  have HZ := Lib.hid hzz
  have HC3 := Lib.hid c3
  have HBL := Lib.hid k.lt
  have HNE : Hid (b ≠ w.heap.size) := by have := h.lt; exact Lib.hid (by omega)
  have hend2 : ∀ (w2 : World), Below W.heap.size W w2 → (put4 w2 w.heap.size (.int .i64 7) (.int .u8 0) (.int .u8 D.option) (.slice none 0 0)).heap[w.heap.size]? = some (.cells #[.int .i64 7, .int .u8 0, .int .u8 D.option, .slice none 0 0] 26 (0, 0)) ∧ Below w.heap.size w (put4 w2 w.heap.size (.int .i64 7) (.int .u8 0) (.int .u8 D.option) (.slice none 0 0)) :=
    fun w2 b2 => ⟨put4_heap ((b2.block _ (by omega)).trans hblk) _ _ _ _, put4_below (hb.trans (b2.mono (by omega))) (Nat.le_refl _) _ _ _ _⟩
  have hend : ∀ (w2 : World) (kd : Int) (p : Value), OwnBytes W.heap.size w2 p D.bytes → Below W.drew.heap.size W.drew w2 → (put4 w2 w.heap.size (.int .i64 kd) (.int .u8 0) (.int .u8 D.option) p).heap[w.heap.size]? = some (.cells #[.int .i64 kd, .int .u8 0, .int .u8 D.option, p] 26 (0, 0)) ∧ Below w.heap.size w (put4 w2 w.heap.size (.int .i64 kd) (.int .u8 0) (.int .u8 D.option) p) ∧ OwnBytes w.heap.size (put4 w2 w.heap.size (.int .i64 kd) (.int .u8 0) (.int .u8 D.option) p) p D.bytes :=
    fun w2 kd p R b2 => ⟨put4_heap ((b2.block _ (by show w.heap.size < W.heap.size; omega)).trans hblk) _ _ _ _, put4_below (hb.drew.trans (b2.mono (by show w.heap.size ≤ W.heap.size; omega))) (Nat.le_refl _) _ _ _ _,
      (R.keep fun g hg _ => put4_other _ _ _ _ _ _ g (by omega)).lower (by omega)⟩
  have HEND2 := Lib.hid hend2
  have HEND := Lib.hid hend
  clear hend hend2 hW hb hblk hzz k h
  obtain ⟨st, vb, nm, op, by', lg⟩ := D
  simp only at c2 c3 c5 HC3
  cases nm
  · rw [show eventE ⟨st, vb, false, op, by', lg⟩ = ⟨7, 0, op, []⟩ from rfl]
    clear HEND
    go_enter Try.func132, Try.ntmps132
    go_upto_region 2 with fail
    rw [HW.out]
    go_wp2_with fail
    refine (bad_any HK.out).mono ?_
    rintro e w2 ⟨rfl, b2⟩
    obtain ⟨e0, f0⟩ := boxed_facts ((b2.block _ (by rw [HZ.out]; omega)).trans HBK.out)
    have HE2 := Lib.hid (HEND2.out w2 b2)
    have HB2 := Lib.hid b2
    clear b2
    go_wp2
    refine bodyPost_ret (results_cell_row rfl _ _ w.heap.size 26 _ (0, 0) _ rfl HE2.out.1 Try.underlying26 rfl size_ev) rfl ?_
    exact ⟨_, rfl, OwnBytes.nil _ _, HE2.out.2⟩
  · cases lg
    · rw [show eventE ⟨st, vb, true, op, by', false⟩ = ⟨5, 0, op, by'⟩ from rfl]
      clear HEND2
      go_enter Try.func132, Try.ntmps132
      go_upto_region 2 with fail
      rw [HW.out]
      go_wp2_with fail
      first
      | (go_region_held3 (fun w' => w'.cell? ⟨b, 3, none⟩ = some (.int .u8 op)) (first | assumption | (with_reducible refine put4_cell HNE.out ?_ _ _ _ _; assumption))
          (first | (go_at_call 141; (with_reducible refine (copied_any HKD.out).mono ?_); rintro e w2 ⟨p, rfl, R, b1⟩; have k4 := (b1.cell (p := ⟨b, 3, none⟩) HBL.out).trans HC3.out; obtain ⟨e0, f0⟩ := boxed_facts ((b1.block _ (by show w.heap.size < W.heap.size; rw [HZ.out]; omega)).trans HBK.out); have HE2 := Lib.hid (HEND.out w2 5 p R b1); obtain ⟨ra, rc, rfl⟩ := R.slice)))
      | fail
      all_goals
        go_wp2
        refine bodyPost_ret (results_cell_row rfl _ _ w.heap.size 26 _ (0, 0) _ rfl HE2.out.1 Try.underlying26 rfl size_ev) rfl ?_
        exact ⟨_, rfl, HE2.out.2.2, HE2.out.2.1⟩
    · rw [show eventE ⟨st, vb, true, op, by', true⟩ = ⟨6, 0, op, by'⟩ from rfl]
      clear HEND2
      go_enter Try.func132, Try.ntmps132
      go_upto_region 2 with fail
      rw [HW.out]
      go_wp2_with fail
      first
      | (go_region_held3 (fun w' => w'.cell? ⟨b, 3, none⟩ = some (.int .u8 op)) (first | assumption | (with_reducible refine put4_cell HNE.out ?_ _ _ _ _; assumption))
          (first | (go_at_call 141; (with_reducible refine (copied_any HKD.out).mono ?_); rintro e w2 ⟨p, rfl, R, b1⟩; have k4 := (b1.cell (p := ⟨b, 3, none⟩) HBL.out).trans HC3.out; obtain ⟨e0, f0⟩ := boxed_facts ((b1.block _ (by show w.heap.size < W.heap.size; rw [HZ.out]; omega)).trans HBK.out); have HE2 := Lib.hid (HEND.out w2 6 p R b1); obtain ⟨ra, rc, rfl⟩ := R.slice)))
      | fail
      all_goals
        go_wp2
        refine bodyPost_ret (results_cell_row rfl _ _ w.heap.size 26 _ (0, 0) _ rfl HE2.out.1 Try.underlying26 rfl size_ev) rfl ?_
        exact ⟨_, rfl, HE2.out.2.2, HE2.out.2.1⟩
end Go.Proofs.Ytimidoaafllnkaa.Iac
