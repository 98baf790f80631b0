/-
  A field of its bytes.
-/
import Derived.Test.YtmmgebiojpnhcaaDoorCmdF
namespace Go.Proofs.YtmmgebiojpnhcaaDoor.Cmd
open Go.RowKit Base Go.Proofs.YtmmgebiojpnhcaaDoor.Ord
set_option linter.unusedVariables false
set_option linter.unusedSimpArgs false

abbrev zF : Array Value := #[.int .u8 0, .int .u8 0, .int .u8 0, .int .u8 0, .slice none 0 0, .int .i64 0, .slice none 0 0]
abbrev put7 (W : World) (g : Nat) (x0 x1 x2 x3 x4 x5 x6 : Value) : World := ((((((W.setCell ⟨g, 0, none⟩ x0).setCell ⟨g, 1, none⟩ x1).setCell ⟨g, 2, none⟩ x2).setCell ⟨g, 3, none⟩ x3).setCell ⟨g, 4, none⟩ x4).setCell ⟨g, 5, none⟩ x5).setCell ⟨g, 6, none⟩ x6
theorem put7_turn (W : World) (g : Nat) (x0 x1 x2 x3 x4 x5 x6 : Value) : Turn (At g) W (put7 W g x0 x1 x2 x3 x4 x5 x6) :=
  ((((((turn_set W g 0 x0).trans (turn_set _ g 1 x1)).trans (turn_set _ g 2 x2)).trans (turn_set _ g 3 x3)).trans (turn_set _ g 4 x4)).trans (turn_set _ g 5 x5)).trans (turn_set _ g 6 x6)
theorem put7_row {W : World} {g : Nat} {y0 y1 y2 y3 y4 y5 y6 : Value} {t : TypeId} (h : W.heap[g]? = some (.cells #[y0, y1, y2, y3, y4, y5, y6] t (0, 0))) (x0 x1 x2 x3 x4 x5 x6 : Value) : (put7 W g x0 x1 x2 x3 x4 x5 x6).heap[g]? = some (.cells #[x0, x1, x2, x3, x4, x5, x6] t (0, 0)) := by
  have := heap_set (heap_set (heap_set (heap_set (heap_set (heap_set (heap_set h 0 x0) 1 x1) 2 x2) 3 x3) 4 x4) 5 x5) 6 x6
  simpa [put7] using this
theorem load_fl {g : Nat} {W : World} {x0 x1 x2 x3 x4 x5 x6 : Value} (hr : W.heap[g]? = some (.cells #[x0, x1, x2, x3, x4, x5, x6] 39 (0, 0))) : (loadVar 39 ⟨g, 0, none⟩).run Tryd.prog W = .ok (.agg #[x0, x1, x2, x3, x4, x5, x6]) W :=
  run_loadVar_row _ g 39 39 _ (0, 0) _ hr Tryd.underlying39 rfl size_fl
theorem cells7 {W : World} {g : Nat} {x0 x1 x2 x3 x4 x5 x6 : Value} {t : TypeId} (h : W.heap[g]? = some (.cells #[x0, x1, x2, x3, x4, x5, x6] t (0, 0))) :
    (W.cell? ⟨g, 0, none⟩ = some x0 ∧ W.cell? ⟨g, 1, none⟩ = some x1 ∧ W.cell? ⟨g, 2, none⟩ = some x2 ∧ W.cell? ⟨g, 3, none⟩ = some x3 ∧ W.cell? ⟨g, 4, none⟩ = some x4 ∧ W.cell? ⟨g, 5, none⟩ = some x5 ∧ W.cell? ⟨g, 6, none⟩ = some x6) ∧ ∀ o, W.frozen? ⟨g, o, none⟩ = false := by
  simp [World.cell?, World.frozen?, h]
/-- The result in the first block, the field so far in block q. -/
structure GQ (w : World) (q : Nat) (cs : Array Value) (W : World) : Prop where
  old : Below w.heap.size w W
  res : W.heap[w.heap.size]? = some (.cells zF 39 (0, 0))
  blk : W.heap[q]? = some (.cells cs 39 (0, 0))
  sq : w.heap.size < q
  tb : Tbl W
section
variable {w W W' : World} {q : Nat} {cs : Array Value}
theorem GQ.s {x0 x1 x2 x3 x4 x5 x6 : Value} (h : GQ w q #[x0, x1, x2, x3, x4, x5, x6] W) : W.cell? ⟨q, 0, none⟩ = some x0 ∧ W.cell? ⟨q, 1, none⟩ = some x1 ∧ W.cell? ⟨q, 2, none⟩ = some x2 ∧ W.cell? ⟨q, 3, none⟩ = some x3 ∧ W.cell? ⟨q, 4, none⟩ = some x4 ∧ W.cell? ⟨q, 5, none⟩ = some x5 ∧ W.cell? ⟨q, 6, none⟩ = some x6 := (cells7 h.blk).1
theorem GQ.drew (h : GQ w q cs W) : GQ w q cs W.drew := ⟨h.old.drew, h.res, h.blk, h.sq, h.tb⟩
theorem GQ.drewN (h : GQ w q cs W) (n : Nat) : GQ w q cs (W.drewN n) := ⟨below_drewN h.old n, h.res, h.blk, h.sq, h.tb⟩
theorem GQ.below (h : GQ w q cs W) (t : Below W.heap.size W W') : GQ w q cs W' := ⟨h.old.trans (t.mono h.old.size), (t.block _ (lt_of_block h.res)).trans h.res, (t.block _ (lt_of_block h.blk)).trans h.blk, h.sq, h.tb.below t⟩
theorem GQ.c (h : GQ w q cs W) : (W.cell? ⟨w.heap.size, 0, none⟩ = some (.int .u8 0) ∧ W.cell? ⟨w.heap.size, 1, none⟩ = some (.int .u8 0) ∧ W.cell? ⟨w.heap.size, 2, none⟩ = some (.int .u8 0) ∧ W.cell? ⟨w.heap.size, 3, none⟩ = some (.int .u8 0) ∧ W.cell? ⟨w.heap.size, 4, none⟩ = some (.slice none 0 0) ∧ W.cell? ⟨w.heap.size, 5, none⟩ = some (.int .i64 0) ∧ W.cell? ⟨w.heap.size, 6, none⟩ = some (.slice none 0 0)) ∧ ∀ o, W.frozen? ⟨w.heap.size, o, none⟩ = false := cells7 h.res
theorem GQ.far {x0 x1 x2 x3 x4 x5 x6 : Value} (h : GQ w q #[x0, x1, x2, x3, x4, x5, x6] W) (y0 y1 y2 y3 y4 y5 y6 : Value) : (put7 W w.heap.size y0 y1 y2 y3 y4 y5 y6).cell? ⟨q, 0, none⟩ = some x0 ∧ (put7 W w.heap.size y0 y1 y2 y3 y4 y5 y6).cell? ⟨q, 1, none⟩ = some x1 ∧ (put7 W w.heap.size y0 y1 y2 y3 y4 y5 y6).cell? ⟨q, 2, none⟩ = some x2 ∧ (put7 W w.heap.size y0 y1 y2 y3 y4 y5 y6).cell? ⟨q, 3, none⟩ = some x3 ∧ (put7 W w.heap.size y0 y1 y2 y3 y4 y5 y6).cell? ⟨q, 4, none⟩ = some x4 ∧ (put7 W w.heap.size y0 y1 y2 y3 y4 y5 y6).cell? ⟨q, 5, none⟩ = some x5 ∧ (put7 W w.heap.size y0 y1 y2 y3 y4 y5 y6).cell? ⟨q, 6, none⟩ = some x6 := by
  have t := put7_turn W w.heap.size y0 y1 y2 y3 y4 y5 y6
  have hb := (t.block q (lt_of_block h.blk) (fun e => by have : q = w.heap.size := e; have := h.sq; omega)).trans h.blk
  exact (cells7 hb).1
theorem GQ.fin (h : GQ w q cs W) (x0 x1 x2 x3 x4 x5 x6 : Value) : Below w.heap.size w (put7 W w.heap.size x0 x1 x2 x3 x4 x5 x6) ∧ (loadVar 39 ⟨w.heap.size, 0, none⟩).run Tryd.prog (put7 W w.heap.size x0 x1 x2 x3 x4 x5 x6) = .ok (.agg #[x0, x1, x2, x3, x4, x5, x6]) (put7 W w.heap.size x0 x1 x2 x3 x4 x5 x6) := by
  obtain ⟨ho, hr, _, _, _⟩ := h
  have hrow := put7_row hr x0 x1 x2 x3 x4 x5 x6
  have ht := put7_turn W w.heap.size x0 x1 x2 x3 x4 x5 x6
  generalize put7 W w.heap.size x0 x1 x2 x3 x4 x5 x6 = Z at hrow ht ⊢
  exact ⟨ho.trans (ht.at_below ho.size (Nat.le_refl _)), load_fl hrow⟩
theorem GQ.put (h : GQ w q cs W) (hq : 0 < w.heap.size) (o : Nat) (x : Value) : GQ w q (cs.setIfInBounds o x) (W.setCell ⟨q, o, none⟩ x) := by
  have t := turn_set W q o x
  have hne : ∀ k, k < q → k < W.heap.size → (W.setCell ⟨q, o, none⟩ x).heap[k]? = W.heap[k]? := fun k hk hl => t.block k hl (fun e => by have : k = q := e; omega)
  refine ⟨h.old.trans (t.at_below h.old.size (Nat.le_of_lt h.sq)), (hne _ h.sq (lt_of_block h.res)).trans h.res, heap_set h.blk o x, h.sq, ?_⟩
  obtain ⟨a, b, hT⟩ := h.tb
  exact ⟨a, b, (hne 0 (by have := h.sq; omega) (lt_of_block hT)).trans hT⟩
end
/-- .. and a cell of the row. -/
structure GR (w : World) (q : Nat) (cs : Array Value) (b o : Nat) (y : Value) (W : World) : Prop where
  g : GQ w q cs W
  r : w.cell? ⟨b, o, none⟩ = some y
section
variable {w W W' : World} {q b o : Nat} {cs : Array Value} {y : Value}
theorem GR.drew (h : GR w q cs b o y W) : GR w q cs b o y W.drew := ⟨h.g.drew, h.r⟩
theorem GR.below (h : GR w q cs b o y W) (t : Below W.heap.size W W') : GR w q cs b o y W' := ⟨h.g.below t, h.r⟩
theorem GR.cell (h : GR w q cs b o y W) : W.cell? ⟨b, o, none⟩ = some y := (h.g.old.cell (World.block_lt_of_cell? w _ h.r)).trans h.r
theorem GR.s {x0 x1 x2 x3 x4 x5 x6 : Value} (h : GR w q #[x0, x1, x2, x3, x4, x5, x6] b o y W) : W.cell? ⟨q, 0, none⟩ = some x0 ∧ W.cell? ⟨q, 1, none⟩ = some x1 ∧ W.cell? ⟨q, 2, none⟩ = some x2 ∧ W.cell? ⟨q, 3, none⟩ = some x3 ∧ W.cell? ⟨q, 4, none⟩ = some x4 ∧ W.cell? ⟨q, 5, none⟩ = some x5 ∧ W.cell? ⟨q, 6, none⟩ = some x6 ∧ W.cell? ⟨b, o, none⟩ = some y := by
  obtain ⟨a0, a1, a2, a3, a4, a5, a6⟩ := h.g.s
  exact ⟨a0, a1, a2, a3, a4, a5, a6, h.cell⟩
theorem GR.far {x0 x1 x2 x3 x4 x5 x6 : Value} (h : GR w q #[x0, x1, x2, x3, x4, x5, x6] b o y W) (y0 y1 y2 y3 y4 y5 y6 : Value) : (put7 W w.heap.size y0 y1 y2 y3 y4 y5 y6).cell? ⟨q, 0, none⟩ = some x0 ∧ (put7 W w.heap.size y0 y1 y2 y3 y4 y5 y6).cell? ⟨q, 1, none⟩ = some x1 ∧ (put7 W w.heap.size y0 y1 y2 y3 y4 y5 y6).cell? ⟨q, 2, none⟩ = some x2 ∧ (put7 W w.heap.size y0 y1 y2 y3 y4 y5 y6).cell? ⟨q, 3, none⟩ = some x3 ∧ (put7 W w.heap.size y0 y1 y2 y3 y4 y5 y6).cell? ⟨q, 4, none⟩ = some x4 ∧ (put7 W w.heap.size y0 y1 y2 y3 y4 y5 y6).cell? ⟨q, 5, none⟩ = some x5 ∧ (put7 W w.heap.size y0 y1 y2 y3 y4 y5 y6).cell? ⟨q, 6, none⟩ = some x6 ∧ (put7 W w.heap.size y0 y1 y2 y3 y4 y5 y6).cell? ⟨b, o, none⟩ = some y := by
  obtain ⟨a0, a1, a2, a3, a4, a5, a6⟩ := h.g.far y0 y1 y2 y3 y4 y5 y6
  exact ⟨a0, a1, a2, a3, a4, a5, a6, (((h.g.fin y0 y1 y2 y3 y4 y5 y6).1).cell (World.block_lt_of_cell? w _ h.r)).trans h.r⟩
end
/-- What parseField answers. -/
def FieldK (w : World) (L : List Int) (r : Ending) (w' : World) : Prop :=
  ∃ (a b c d : Int) (pa : Option Addr) (pn pc : Nat) (e : Int), r = .returned (.tuple #[.agg #[.int .u8 a, .int .u8 b, .int .u8 c, .int .u8 d, .slice pa pn pc, .int .i64 e, .slice none 0 0], .bool (fieldM L).isSome]) ∧
    (∀ f, fieldM L = some f → f = ⟨a, b, c, d, f.ords, e⟩ ∧ ∃ P, OrdsOwn w.heap.size w' (.slice pa pn pc) P ∧ P.map (·.1) = f.ords) ∧ Below w.heap.size w w'
theorem FieldK.none {w w' : World} {L : List Int} (h : fieldM L = .none) {a b c d : Int} {pa : Option Addr} {pn pc : Nat} {e : Int} (hb : Below w.heap.size w w') : FieldK w L (.returned (.tuple #[.agg #[.int .u8 a, .int .u8 b, .int .u8 c, .int .u8 d, .slice pa pn pc, .int .i64 e, .slice Option.none 0 0], .bool false])) w' :=
  ⟨a, b, c, d, pa, pn, pc, e, by rw [h]; rfl, fun f hf => by (rw [h] at hf; cases hf), hb⟩
theorem FieldK.some {w w' : World} {L : List Int} {id op kind wcc e : Int} {os : List Or} {pa : Option Addr} {pn pc : Nat} {P : List OrdP} (h : fieldM L = .some ⟨id, op, kind, wcc, os, e⟩) (ho : OrdsOwn w.heap.size w' (.slice pa pn pc) P) (hp : P.map (·.1) = os) (hb : Below w.heap.size w w') : FieldK w L (.returned (.tuple #[.agg #[.int .u8 id, .int .u8 op, .int .u8 kind, .int .u8 wcc, .slice pa pn pc, .int .i64 e, .slice Option.none 0 0], .bool true])) w' :=
  ⟨id, op, kind, wcc, pa, pn, pc, e, by rw [h]; rfl, fun f hf => by (rw [h] at hf; injection hf with hf; subst hf; exact ⟨rfl, P, ho, hp⟩), hb⟩
set_option maxRecDepth 100000 in
set_option maxHeartbeats 8000000 in
theorem field_any {w : World} (ht : Tbl w) (v : Value) (L : List Int) (hc : CutRow w v L) (hne : L ≠ []) (hb : ∀ x ∈ L, 0 ≤ x ∧ x < 256) (hm : L.length ≤ 1000000) :
    Calls Tryd.prog 37 #[v] w (FieldK w L) := by
  obtain ⟨a, c, rfl⟩ : ∃ a c, v = .slice a L.length c := by obtain ⟨_, a, c, e, _⟩ := hc; exact ⟨a, c, e⟩
  obtain ⟨n, hn⟩ : ∃ n, n = L.length := ⟨_, rfl⟩
  rw [← hn] at hc ⊢
  have hnpos : 0 < n := by rw [hn]; exact List.length_pos_iff.2 hne
  obtain ⟨-, hncap, b, off, rfl, hcell⟩ := CutRow.nth hc hnpos
  obtain ⟨x, hx⟩ : ∃ x, x = nthL L 0 := ⟨_, rfl⟩
  have hz0 : 0 < w.heap.size := by obtain ⟨_, _, h⟩ := ht; exact lt_of_block h
  have e1 := below_alloc w (.cells zF 39)
  have e2 := below_alloc (w.alloc (.cells zF 39)) (.cells #[.int .u8 x, .int .u8 0, .int .u8 0, .int .u8 0, .slice none 0 0, .int .i64 0, .slice none 0 0] 39)
  have hold : Below w.heap.size w ((w.alloc (.cells zF 39)).alloc (.cells #[.int .u8 x, .int .u8 0, .int .u8 0, .int .u8 0, .slice none 0 0, .int .i64 0, .slice none 0 0] 39)) := e1.trans (e2.mono e1.size)
  have HG1 := Lib.hid (show GQ w (w.alloc (.cells zF 39)).heap.size #[.int .u8 x, .int .u8 0, .int .u8 0, .int .u8 0, .slice none 0 0, .int .i64 0, .slice none 0 0] ((w.alloc (.cells zF 39)).alloc (.cells #[.int .u8 x, .int .u8 0, .int .u8 0, .int .u8 0, .slice none 0 0, .int .i64 0, .slice none 0 0] 39)) from
    ⟨hold, (e2.block _ (lt_of_block (heap_alloc_new w _))).trans (heap_alloc_new w _), heap_alloc_new _ _, by rw [World.size_alloc]; omega, ht.below hold⟩)
  have HC1 := Lib.hid (hc.below hold)
  have HCW := Lib.hid hc
  have HZ0 := Lib.hid hz0
  obtain ⟨W0, hW0⟩ : ∃ W0, W0 = w.alloc (.cells #[.int .u8 0, .int .u8 0, .int .u8 0, .int .u8 0, .slice none 0 0, .int .i64 0, .slice none 0 0] 39) := ⟨_, rfl⟩
  rw [← hW0] at HG1 HC1 e1
  obtain ⟨W1, hW1⟩ : ∃ W1, W1 = W0.alloc (.cells #[.int .u8 x, .int .u8 0, .int .u8 0, .int .u8 0, .slice none 0 0, .int .i64 0, .slice none 0 0] 39) := ⟨_, rfl⟩
  obtain ⟨q, hq⟩ : ∃ q, q = W0.heap.size := ⟨_, rfl⟩
  obtain ⟨s, hs⟩ : ∃ s, s = w.heap.size := ⟨_, rfl⟩
  rw [← hW1] at HG1 HC1
  rw [← hq] at HG1
  have HCELL : Hid (∀ W, CutRow W (.slice (some ⟨b, off, none⟩) n c) L → ∀ i, i < n → W.cell? ⟨b, off + i, none⟩ = some (.int .u8 (nthL L i))) := Lib.hid (fun W h => by
    obtain ⟨_, _, b2, off2, e, hi⟩ := CutRow.nth h hnpos
    cases e
    exact hi)
  have c0 : W0.cell? ⟨b, off, none⟩ = some (.int .u8 x) := by rw [hx]; exact HCELL.out W0 (hc.below e1) 0 hnpos
  have HW0 := Lib.hid hW0.symm
  have HW1 := Lib.hid hW1.symm
  have HQ := Lib.hid hq.symm
  have HX := Lib.hid hx
  have HN := Lib.hid hn
  have HBY := Lib.hid hb
  have HMX := Lib.hid hm
  have HNE := Lib.hid hne
  have i0 : (0 : Int) < (n : Int) := by omega
  have hd := HG1.out.s
  clear hW0 hW1 hq hs hx hn hb hm hne ht hc hold e1 e2 hcell
  -- none of the kinds
  by_cases hA : x = 1 ∧ n = 3
  · obtain ⟨rfl, rfl⟩ := hA
    obtain ⟨y1, hy1⟩ : ∃ y, y = nthL L 1 := ⟨_, rfl⟩
    obtain ⟨y2, hy2⟩ : ∃ y, y = nthL L 2 := ⟨_, rfl⟩
    have u2 : W1.cell? ⟨b, off + 2, none⟩ = some (.int .u8 y2) := by rw [hy2]; exact HCELL.out W1 HC1.out 2 (by omega)
    have HR2 := Lib.hid (show GR w q #[.int .u8 1, .int .u8 y2, .int .u8 0, .int .u8 0, .slice none 0 0, .int .i64 0, .slice none 0 0] b (off + 1) (.int .u8 y1) (W1.setCell ⟨q, 1, none⟩ (.int .u8 y2)) from ⟨HG1.out.put HZ0.out 1 (.int .u8 y2), by rw [hy1]; exact HCELL.out w HCW.out 1 (by omega)⟩)
    have hqf := (cells7 HG1.out.blk).2 1
    obtain ⟨W2, hW2⟩ : ∃ W2, W2 = W1.setCell ⟨q, 1, none⟩ (.int .u8 y2) := ⟨_, rfl⟩
    rw [← hW2] at HR2
    have HW2 := Lib.hid hW2.symm
    obtain ⟨R, hR⟩ : ∃ R, R = asK 1 y2 0 := ⟨_, rfl⟩
    obtain ⟨hd0, hhd⟩ : ∃ h, h = aheadK y2 := ⟨_, rfl⟩
    have HAS : Hid (∀ W, Calls Tryd.prog 48 #[.agg #[.int .u8 1, .int .u8 y2, .int .u8 0, .int .u8 0, .slice none 0 0, .int .i64 0, .slice none 0 0]] W fun r w' => r = .returned (.bool R) ∧ Below W.heap.size W w') := Lib.hid (fun W => by rw [hR]; exact as_any _ _ _ _ _ _ _ W)
    have HAH : Hid (∀ W, Calls Tryd.prog 49 #[.int .u8 y2] W fun r w' => r = .returned (.int .u8 hd0) ∧ W = w') := Lib.hid (fun W => by rw [hhd]; exact ahead_any _ W)
    have HE : Hid (fieldM L = if R = true ∧ y1 = hd0 then some ⟨1, y2, 0, 0, [], 0⟩ else none) := Lib.hid (by
      unfold fieldM
      rw [← HX.out, ← HN.out, if_pos ⟨rfl, rfl⟩, ← hy2, ← hy1, ← hR, ← hhd])
    have i1 : (1 : Int) < 3 := by omega
    clear hy1 hy2 hW2 hR hhd
    cases R
    · go_enter Tryd.func37, Tryd.ntmps37
      go_upto_region 1 with fail
      rw [HW0.out]
      go_upto_region 2 with fail
      rw [HW1.out, HQ.out]
      clear c0
      obtain ⟨d0, d1, d2, d3, d4, d5, d6⟩ := hd
      go_upto_region 4 with fail
      rw [HW2.out]
      clear d0 d1 d2 d3 d4 d5 d6
      refine wp_region_held_drew (S := fun W => W.cell? ⟨q, 0, none⟩ = some (.int .u8 1) ∧ W.cell? ⟨q, 1, none⟩ = some (.int .u8 y2) ∧ W.cell? ⟨q, 2, none⟩ = some (.int .u8 0) ∧ W.cell? ⟨q, 3, none⟩ = some (.int .u8 0) ∧ W.cell? ⟨q, 4, none⟩ = some (.slice none 0 0) ∧ W.cell? ⟨q, 5, none⟩ = some (.int .i64 0) ∧ W.cell? ⟨q, 6, none⟩ = some (.slice none 0 0) ∧ W.cell? ⟨b, off + 1, none⟩ = some (.int .u8 y1)) (by kernel_rfl) (HR2.out.drew.s) (fun hHeld => ?_)
      refine wpAnyH_take (i := 0) (oi := { dst := some 23, op := Op.load 39 (Operand.tmp 4), type := 39, pos := "parse.go:66", after := #[], guard := none }) (v := ?_) rfl (by kernel_rfl) (by kernel_rfl) (by kernel_rfl) (fun _ _ _ h => h) (Or.inl ⟨by rfl, ?_⟩) (by assumption) ?_
      rotate_left
      focus (intro w hSw; (try dsimp only at hSw); go_simp; try (with_reducible rfl))
      try simp only [Act.put, List.setIfInBounds_toArray, List.set_cons_zero, List.set_cons_succ]
      refine wpAnyH_take (i := 1) (oi := { dst := some 24, op := Op.load 39 (Operand.tmp 4), type := 39, pos := "parse.go:66", after := #[], guard := none }) (v := ?_) rfl (by kernel_rfl) (by kernel_rfl) (by kernel_rfl) (fun _ _ _ h => h) (Or.inl ⟨by rfl, ?_⟩) (by assumption) ?_
      rotate_left
      focus (intro w hSw; (try dsimp only at hSw); go_simp; try (with_reducible rfl))
      try simp only [Act.put, List.setIfInBounds_toArray, List.set_cons_zero, List.set_cons_succ]
      refine wpAnyH_ready (rs := [2]) (by kernel_rfl) (by simp) (AllReadyH.cons (o := { dst := some 25, op := Op.call { callee := Callee.value (Operand.func 48), args := #[Operand.tmp 24], argTypes := #[39] }, type := 4, pos := "parse.go:66", after := #[{ on := 1, ground := Ground.data }], guard := none }) rfl (fun K hK => ?_) AllReadyH.nil)
      go_simp
      go_at_call 48
      refine (HAS.out _).mono ?_
      rintro e w5 ⟨rfl, b5⟩
      have HF := Lib.hid (show GR w q #[.int .u8 1, .int .u8 y2, .int .u8 0, .int .u8 0, .slice none 0 0, .int .i64 0, .slice none 0 0] b (off + 1) (.int .u8 y1) w5 from HR2.out.drew.below b5)
      obtain ⟨⟨k0, k1, k2, k3, k4, k5, k6⟩, kf⟩ := HF.out.g.c
      have kf0 := kf 0
      have kf1 := kf 1
      have kf2 := kf 2
      have kf3 := kf 3
      have kf4 := kf 4
      have kf5 := kf 5
      have kf6 := kf 6
      clear b5 kf
      go_wp2_with fail
      refine hK.out _ _ (HF.out.s) (fun hHeld => ?_)
      clear hK K
      try simp only [Act.put, List.setIfInBounds_toArray, List.set_cons_zero, List.set_cons_succ]
      refine wpAnyH_take (i := 3) (oi := { dst := some 26, op := Op.move (Operand.tmp 25), type := 4, pos := "parse.go:66", after := #[{ on := 2, ground := Ground.data }, { on := 2, ground := Ground.chain }], guard := none }) (v := ?_) rfl (by kernel_rfl) (by kernel_rfl) (by kernel_rfl) (fun _ _ _ h => h) (Or.inl ⟨by rfl, ?_⟩) (by assumption) ?_
      rotate_left
      focus (intro w hSw; (try dsimp only at hSw); go_simp; try (with_reducible rfl))
      try simp only [Act.put, List.setIfInBounds_toArray, List.set_cons_zero, List.set_cons_succ]
      refine wpAnyH_take (i := 4) (oi := { dst := some 27, op := Op.move (Operand.tmp 0), type := 22, pos := "parse.go:66", after := #[{ on := 3, ground := Ground.guard }, { on := 12, ground := Ground.gcOnly Departure.lateStores }], guard := some (3, true) }) (v := undef) rfl (by kernel_rfl) (by kernel_rfl) (by kernel_rfl) (fun _ _ _ h => h) (Or.inr ⟨by rfl, rfl⟩) (by assumption) ?_
      try simp only [Act.put, List.setIfInBounds_toArray, List.set_cons_zero, List.set_cons_succ]
      refine wpAnyH_take (i := 5) (oi := { dst := some 28, op := Op.indexAddr 22 (Operand.tmp 27) (Operand.const (Value.int IntKind.i64 1)), type := 0, pos := "parse.go:66", after := #[{ on := 4, ground := Ground.data }, { on := 3, ground := Ground.guard }, { on := 12, ground := Ground.gcOnly Departure.lateStores }], guard := some (3, true) }) (v := undef) rfl (by kernel_rfl) (by kernel_rfl) (by kernel_rfl) (fun _ _ _ h => h) (Or.inr ⟨by rfl, rfl⟩) (by assumption) ?_
      try simp only [Act.put, List.setIfInBounds_toArray, List.set_cons_zero, List.set_cons_succ]
      refine wpAnyH_take (i := 6) (oi := { dst := some 29, op := Op.load 5 (Operand.tmp 28), type := 5, pos := "parse.go:66", after := #[{ on := 5, ground := Ground.data }, { on := 3, ground := Ground.guard }, { on := 12, ground := Ground.gcOnly Departure.lateStores }], guard := some (3, true) }) (v := undef) rfl (by kernel_rfl) (by kernel_rfl) (by kernel_rfl) (fun _ _ _ h => h) (Or.inr ⟨by rfl, rfl⟩) (by assumption) ?_
      try simp only [Act.put, List.setIfInBounds_toArray, List.set_cons_zero, List.set_cons_succ]
      refine wpAnyH_take (i := 7) (oi := { dst := some 30, op := Op.fieldAddr 39 (Operand.tmp 4) 1, type := 0, pos := "parse.go:66", after := #[{ on := 3, ground := Ground.guard }], guard := some (3, true) }) (v := undef) rfl (by kernel_rfl) (by kernel_rfl) (by kernel_rfl) (fun _ _ _ h => h) (Or.inr ⟨by rfl, rfl⟩) (by assumption) ?_
      try simp only [Act.put, List.setIfInBounds_toArray, List.set_cons_zero, List.set_cons_succ]
      refine wpAnyH_take (i := 8) (oi := { dst := some 31, op := Op.load 5 (Operand.tmp 30), type := 5, pos := "parse.go:66", after := #[{ on := 7, ground := Ground.data }, { on := 3, ground := Ground.guard }], guard := some (3, true) }) (v := undef) rfl (by kernel_rfl) (by kernel_rfl) (by kernel_rfl) (fun _ _ _ h => h) (Or.inr ⟨by rfl, rfl⟩) (by assumption) ?_
      try simp only [Act.put, List.setIfInBounds_toArray, List.set_cons_zero, List.set_cons_succ]
      refine wpAnyH_take (i := 9) (oi := { dst := some 32, op := Op.call { callee := Callee.value (Operand.func 49), args := #[Operand.tmp 31], argTypes := #[5] }, type := 5, pos := "parse.go:66", after := #[{ on := 8, ground := Ground.data }, { on := 3, ground := Ground.chain }, { on := 3, ground := Ground.guard }], guard := some (3, true) }) (v := undef) rfl (by kernel_rfl) (by kernel_rfl) (by kernel_rfl) (fun _ _ _ h => h) (Or.inr ⟨by rfl, rfl⟩) (by assumption) ?_
      try simp only [Act.put, List.setIfInBounds_toArray, List.set_cons_zero, List.set_cons_succ]
      refine wpAnyH_take (i := 10) (oi := { dst := some 33, op := Op.binOp BinOp.eql 5 (Operand.tmp 29) (Operand.tmp 32) 5, type := 4, pos := "parse.go:66", after := #[{ on := 6, ground := Ground.data }, { on := 9, ground := Ground.data }, { on := 3, ground := Ground.guard }, { on := 12, ground := Ground.gcOnly Departure.lateStores }], guard := some (3, true) }) (v := undef) rfl (by kernel_rfl) (by kernel_rfl) (by kernel_rfl) (fun _ _ _ h => h) (Or.inr ⟨by rfl, rfl⟩) (by assumption) ?_
      try simp only [Act.put, List.setIfInBounds_toArray, List.set_cons_zero, List.set_cons_succ]
      refine wpAnyH_take (i := 11) (oi := { dst := some 34, op := Op.pick (Operand.tmp 26) (Operand.tmp 33) (Operand.const (Value.bool false)), type := 4, pos := "parse.go:66", after := #[{ on := 3, ground := Ground.data }, { on := 10, ground := Ground.data }, { on := 12, ground := Ground.gcOnly Departure.lateStores }], guard := none }) (v := ?_) rfl (by kernel_rfl) (by kernel_rfl) (by kernel_rfl) (fun _ _ _ h => h) (Or.inl ⟨by rfl, ?_⟩) (by assumption) ?_
      rotate_left
      focus (intro w hSw; (try dsimp only at hSw); go_simp; try (with_reducible rfl))
      try simp only [Act.put, List.setIfInBounds_toArray, List.set_cons_zero, List.set_cons_succ]
      refine wpAnyH_ready (rs := [12]) (by kernel_rfl) (by simp) (AllReadyH.cons (o := { dst := none, op := Op.store 39 (Operand.tmp 2) (Operand.tmp 23), type := 0, pos := "parse.go:66", after := #[{ on := 0, ground := Ground.data }, { on := 9, ground := Ground.chain }, { on := 0, ground := Ground.phase }, { on := 1, ground := Ground.textOnly Departure.lateStores }, { on := 2, ground := Ground.textOnly Departure.lateStoresUnsure }, { on := 3, ground := Ground.textOnly Departure.lateStores }, { on := 4, ground := Ground.textOnly Departure.lateStores }, { on := 5, ground := Ground.textOnly Departure.lateStores }, { on := 6, ground := Ground.textOnly Departure.lateStores }, { on := 7, ground := Ground.textOnly Departure.lateStores }, { on := 8, ground := Ground.textOnly Departure.lateStores }, { on := 9, ground := Ground.textOnly Departure.lateStoresUnsure }, { on := 10, ground := Ground.textOnly Departure.lateStores }, { on := 11, ground := Ground.textOnly Departure.lateStores }], guard := none }) rfl (fun K hK => ?_) AllReadyH.nil)
      go_simp
      go_wp2_with fail
      go_wp2_with fail
      refine hK.out _ _ (HF.out.far _ _ _ _ _ _ _) (fun hHeld => ?_)
      clear hK K
      try simp only [Act.put, List.setIfInBounds_toArray, List.set_cons_zero, List.set_cons_succ]
      refine wpAnyH_take (i := 13) (oi := { dst := some 3, op := Op.assign (Operand.tmp 34), type := 4, pos := "parse.go:66", after := #[{ on := 11, ground := Ground.data }, { on := 12, ground := Ground.chain }, { on := 0, ground := Ground.phase }, { on := 1, ground := Ground.phase }, { on := 2, ground := Ground.phase }, { on := 3, ground := Ground.phase }, { on := 4, ground := Ground.phase }, { on := 5, ground := Ground.phase }, { on := 6, ground := Ground.phase }, { on := 7, ground := Ground.phase }, { on := 8, ground := Ground.phase }, { on := 9, ground := Ground.phase }, { on := 10, ground := Ground.phase }, { on := 11, ground := Ground.phase }, { on := 12, ground := Ground.phase }], guard := none }) (v := ?_) rfl (by kernel_rfl) (by kernel_rfl) (by kernel_rfl) (fun _ _ _ h => h) (Or.inl ⟨by rfl, ?_⟩) (by assumption) ?_
      rotate_left
      focus (intro w hSw; (try dsimp only at hSw); go_simp; try (with_reducible rfl))
      try simp only [Act.put, List.setIfInBounds_toArray, List.set_cons_zero, List.set_cons_succ]
      refine wpAnyH_done (by kernel_rfl) ?_ _
      go_wp2_with fail
      obtain ⟨q1, q2⟩ := HF.out.g.fin (.int .u8 1) (.int .u8 y2) (.int .u8 0) (.int .u8 0) (.slice none 0 0) (.int .i64 0) (.slice none 0 0)
      refine bodyPost_ret (results_row_tmp rfl _ _ w.heap.size _ rfl q2) rfl ?_
      exact FieldK.none (by rw [HE.out, if_neg (by rintro ⟨h, _⟩; cases h)]) q1
    · by_cases hyh : y1 = hd0
      · have ty : (y1 == hd0) = true := by simpa using hyh
        have HE2 : Hid (fieldM L = some ⟨1, y2, 0, 0, [], 0⟩) := Lib.hid (by rw [HE.out, if_pos ⟨rfl, hyh⟩])
        clear hyh
        go_enter Tryd.func37, Tryd.ntmps37
        go_upto_region 1 with fail
        rw [HW0.out]
        go_upto_region 2 with fail
        rw [HW1.out, HQ.out]
        clear c0
        obtain ⟨d0, d1, d2, d3, d4, d5, d6⟩ := hd
        go_upto_region 4 with fail
        rw [HW2.out]
        clear d0 d1 d2 d3 d4 d5 d6
        refine wp_region_held_drew (S := fun W => W.cell? ⟨q, 0, none⟩ = some (.int .u8 1) ∧ W.cell? ⟨q, 1, none⟩ = some (.int .u8 y2) ∧ W.cell? ⟨q, 2, none⟩ = some (.int .u8 0) ∧ W.cell? ⟨q, 3, none⟩ = some (.int .u8 0) ∧ W.cell? ⟨q, 4, none⟩ = some (.slice none 0 0) ∧ W.cell? ⟨q, 5, none⟩ = some (.int .i64 0) ∧ W.cell? ⟨q, 6, none⟩ = some (.slice none 0 0) ∧ W.cell? ⟨b, off + 1, none⟩ = some (.int .u8 y1)) (by kernel_rfl) (HR2.out.drew.s) (fun hHeld => ?_)
        refine wpAnyH_take (i := 0) (oi := { dst := some 23, op := Op.load 39 (Operand.tmp 4), type := 39, pos := "parse.go:66", after := #[], guard := none }) (v := ?_) rfl (by kernel_rfl) (by kernel_rfl) (by kernel_rfl) (fun _ _ _ h => h) (Or.inl ⟨by rfl, ?_⟩) (by assumption) ?_
        rotate_left
        focus (intro w hSw; (try dsimp only at hSw); go_simp; try (with_reducible rfl))
        try simp only [Act.put, List.setIfInBounds_toArray, List.set_cons_zero, List.set_cons_succ]
        refine wpAnyH_take (i := 1) (oi := { dst := some 24, op := Op.load 39 (Operand.tmp 4), type := 39, pos := "parse.go:66", after := #[], guard := none }) (v := ?_) rfl (by kernel_rfl) (by kernel_rfl) (by kernel_rfl) (fun _ _ _ h => h) (Or.inl ⟨by rfl, ?_⟩) (by assumption) ?_
        rotate_left
        focus (intro w hSw; (try dsimp only at hSw); go_simp; try (with_reducible rfl))
        try simp only [Act.put, List.setIfInBounds_toArray, List.set_cons_zero, List.set_cons_succ]
        refine wpAnyH_ready (rs := [2]) (by kernel_rfl) (by simp) (AllReadyH.cons (o := { dst := some 25, op := Op.call { callee := Callee.value (Operand.func 48), args := #[Operand.tmp 24], argTypes := #[39] }, type := 4, pos := "parse.go:66", after := #[{ on := 1, ground := Ground.data }], guard := none }) rfl (fun K hK => ?_) AllReadyH.nil)
        go_simp
        go_at_call 48
        refine (HAS.out _).mono ?_
        rintro e w5 ⟨rfl, b5⟩
        have HF := Lib.hid (show GR w q #[.int .u8 1, .int .u8 y2, .int .u8 0, .int .u8 0, .slice none 0 0, .int .i64 0, .slice none 0 0] b (off + 1) (.int .u8 y1) w5 from HR2.out.drew.below b5)
        obtain ⟨⟨k0, k1, k2, k3, k4, k5, k6⟩, kf⟩ := HF.out.g.c
        have kf0 := kf 0
        have kf1 := kf 1
        have kf2 := kf 2
        have kf3 := kf 3
        have kf4 := kf 4
        have kf5 := kf 5
        have kf6 := kf 6
        clear b5 kf
        go_wp2_with fail
        refine hK.out _ _ (HF.out.s) (fun hHeld => ?_)
        clear hK K
        try simp only [Act.put, List.setIfInBounds_toArray, List.set_cons_zero, List.set_cons_succ]
        refine wpAnyH_take (i := 3) (oi := { dst := some 26, op := Op.move (Operand.tmp 25), type := 4, pos := "parse.go:66", after := #[{ on := 2, ground := Ground.data }, { on := 2, ground := Ground.chain }], guard := none }) (v := ?_) rfl (by kernel_rfl) (by kernel_rfl) (by kernel_rfl) (fun _ _ _ h => h) (Or.inl ⟨by rfl, ?_⟩) (by assumption) ?_
        rotate_left
        focus (intro w hSw; (try dsimp only at hSw); go_simp; try (with_reducible rfl))
        try simp only [Act.put, List.setIfInBounds_toArray, List.set_cons_zero, List.set_cons_succ]
        refine wpAnyH_take (i := 4) (oi := { dst := some 27, op := Op.move (Operand.tmp 0), type := 22, pos := "parse.go:66", after := #[{ on := 3, ground := Ground.guard }, { on := 12, ground := Ground.gcOnly Departure.lateStores }], guard := some (3, true) }) (v := ?_) rfl (by kernel_rfl) (by kernel_rfl) (by kernel_rfl) (fun _ _ _ h => h) (Or.inl ⟨by rfl, ?_⟩) (by assumption) ?_
        rotate_left
        focus (intro w hSw; (try dsimp only at hSw); go_simp; try (with_reducible rfl))
        try simp only [Act.put, List.setIfInBounds_toArray, List.set_cons_zero, List.set_cons_succ]
        refine wpAnyH_take (i := 5) (oi := { dst := some 28, op := Op.indexAddr 22 (Operand.tmp 27) (Operand.const (Value.int IntKind.i64 1)), type := 0, pos := "parse.go:66", after := #[{ on := 4, ground := Ground.data }, { on := 3, ground := Ground.guard }, { on := 12, ground := Ground.gcOnly Departure.lateStores }], guard := some (3, true) }) (v := ?_) rfl (by kernel_rfl) (by kernel_rfl) (by kernel_rfl) (fun _ _ _ h => h) (Or.inl ⟨by rfl, ?_⟩) (by assumption) ?_
        rotate_left
        focus (intro w hSw; (try dsimp only at hSw); go_simp; try (with_reducible rfl))
        try simp only [Act.put, List.setIfInBounds_toArray, List.set_cons_zero, List.set_cons_succ]
        refine wpAnyH_take (i := 6) (oi := { dst := some 29, op := Op.load 5 (Operand.tmp 28), type := 5, pos := "parse.go:66", after := #[{ on := 5, ground := Ground.data }, { on := 3, ground := Ground.guard }, { on := 12, ground := Ground.gcOnly Departure.lateStores }], guard := some (3, true) }) (v := ?_) rfl (by kernel_rfl) (by kernel_rfl) (by kernel_rfl) (fun _ _ _ h => h) (Or.inl ⟨by rfl, ?_⟩) (by assumption) ?_
        rotate_left
        focus (intro w hSw; (try dsimp only at hSw); go_simp; try (with_reducible rfl))
        try simp only [Act.put, List.setIfInBounds_toArray, List.set_cons_zero, List.set_cons_succ]
        refine wpAnyH_take (i := 7) (oi := { dst := some 30, op := Op.fieldAddr 39 (Operand.tmp 4) 1, type := 0, pos := "parse.go:66", after := #[{ on := 3, ground := Ground.guard }], guard := some (3, true) }) (v := ?_) rfl (by kernel_rfl) (by kernel_rfl) (by kernel_rfl) (fun _ _ _ h => h) (Or.inl ⟨by rfl, ?_⟩) (by assumption) ?_
        rotate_left
        focus (intro w hSw; (try dsimp only at hSw); go_simp; try (with_reducible rfl))
        try simp only [Act.put, List.setIfInBounds_toArray, List.set_cons_zero, List.set_cons_succ]
        refine wpAnyH_take (i := 8) (oi := { dst := some 31, op := Op.load 5 (Operand.tmp 30), type := 5, pos := "parse.go:66", after := #[{ on := 7, ground := Ground.data }, { on := 3, ground := Ground.guard }], guard := some (3, true) }) (v := ?_) rfl (by kernel_rfl) (by kernel_rfl) (by kernel_rfl) (fun _ _ _ h => h) (Or.inl ⟨by rfl, ?_⟩) (by assumption) ?_
        rotate_left
        focus (intro w hSw; (try dsimp only at hSw); go_simp; try (with_reducible rfl))
        try simp only [Act.put, List.setIfInBounds_toArray, List.set_cons_zero, List.set_cons_succ]
        refine wpAnyH_ready (rs := [9]) (by kernel_rfl) (by simp) (AllReadyH.cons (o := { dst := some 32, op := Op.call { callee := Callee.value (Operand.func 49), args := #[Operand.tmp 31], argTypes := #[5] }, type := 5, pos := "parse.go:66", after := #[{ on := 8, ground := Ground.data }, { on := 3, ground := Ground.chain }, { on := 3, ground := Ground.guard }], guard := some (3, true) }) rfl (fun K hK => ?_) AllReadyH.nil)
        go_simp
        go_at_call 49
        refine (HAH.out _).mono ?_
        rintro e w6 ⟨rfl, rfl⟩
        go_wp2_with fail
        refine hK.out _ _ (HF.out.s) (fun hHeld => ?_)
        clear hK K
        try simp only [Act.put, List.setIfInBounds_toArray, List.set_cons_zero, List.set_cons_succ]
        refine wpAnyH_take (i := 10) (oi := { dst := some 33, op := Op.binOp BinOp.eql 5 (Operand.tmp 29) (Operand.tmp 32) 5, type := 4, pos := "parse.go:66", after := #[{ on := 6, ground := Ground.data }, { on := 9, ground := Ground.data }, { on := 3, ground := Ground.guard }, { on := 12, ground := Ground.gcOnly Departure.lateStores }], guard := some (3, true) }) (v := ?_) rfl (by kernel_rfl) (by kernel_rfl) (by kernel_rfl) (fun _ _ _ h => h) (Or.inl ⟨by rfl, ?_⟩) (by assumption) ?_
        rotate_left
        focus (intro w hSw; (try dsimp only at hSw); go_simp; try (with_reducible rfl))
        try simp only [Act.put, List.setIfInBounds_toArray, List.set_cons_zero, List.set_cons_succ]
        refine wpAnyH_take (i := 11) (oi := { dst := some 34, op := Op.pick (Operand.tmp 26) (Operand.tmp 33) (Operand.const (Value.bool false)), type := 4, pos := "parse.go:66", after := #[{ on := 3, ground := Ground.data }, { on := 10, ground := Ground.data }, { on := 12, ground := Ground.gcOnly Departure.lateStores }], guard := none }) (v := ?_) rfl (by kernel_rfl) (by kernel_rfl) (by kernel_rfl) (fun _ _ _ h => h) (Or.inl ⟨by rfl, ?_⟩) (by assumption) ?_
        rotate_left
        focus (intro w hSw; (try dsimp only at hSw); go_simp; try (with_reducible rfl))
        try simp only [Act.put, List.setIfInBounds_toArray, List.set_cons_zero, List.set_cons_succ]
        refine wpAnyH_ready (rs := [12]) (by kernel_rfl) (by simp) (AllReadyH.cons (o := { dst := none, op := Op.store 39 (Operand.tmp 2) (Operand.tmp 23), type := 0, pos := "parse.go:66", after := #[{ on := 0, ground := Ground.data }, { on := 9, ground := Ground.chain }, { on := 0, ground := Ground.phase }, { on := 1, ground := Ground.textOnly Departure.lateStores }, { on := 2, ground := Ground.textOnly Departure.lateStoresUnsure }, { on := 3, ground := Ground.textOnly Departure.lateStores }, { on := 4, ground := Ground.textOnly Departure.lateStores }, { on := 5, ground := Ground.textOnly Departure.lateStores }, { on := 6, ground := Ground.textOnly Departure.lateStores }, { on := 7, ground := Ground.textOnly Departure.lateStores }, { on := 8, ground := Ground.textOnly Departure.lateStores }, { on := 9, ground := Ground.textOnly Departure.lateStoresUnsure }, { on := 10, ground := Ground.textOnly Departure.lateStores }, { on := 11, ground := Ground.textOnly Departure.lateStores }], guard := none }) rfl (fun K hK => ?_) AllReadyH.nil)
        go_simp
        go_wp2_with fail
        go_wp2_with fail
        refine hK.out _ _ (HF.out.far _ _ _ _ _ _ _) (fun hHeld => ?_)
        clear hK K
        try simp only [Act.put, List.setIfInBounds_toArray, List.set_cons_zero, List.set_cons_succ]
        refine wpAnyH_take (i := 13) (oi := { dst := some 3, op := Op.assign (Operand.tmp 34), type := 4, pos := "parse.go:66", after := #[{ on := 11, ground := Ground.data }, { on := 12, ground := Ground.chain }, { on := 0, ground := Ground.phase }, { on := 1, ground := Ground.phase }, { on := 2, ground := Ground.phase }, { on := 3, ground := Ground.phase }, { on := 4, ground := Ground.phase }, { on := 5, ground := Ground.phase }, { on := 6, ground := Ground.phase }, { on := 7, ground := Ground.phase }, { on := 8, ground := Ground.phase }, { on := 9, ground := Ground.phase }, { on := 10, ground := Ground.phase }, { on := 11, ground := Ground.phase }, { on := 12, ground := Ground.phase }], guard := none }) (v := ?_) rfl (by kernel_rfl) (by kernel_rfl) (by kernel_rfl) (fun _ _ _ h => h) (Or.inl ⟨by rfl, ?_⟩) (by assumption) ?_
        rotate_left
        focus (intro w hSw; (try dsimp only at hSw); go_simp; try (with_reducible rfl))
        try simp only [Act.put, List.setIfInBounds_toArray, List.set_cons_zero, List.set_cons_succ]
        refine wpAnyH_done (by kernel_rfl) ?_ _
        go_wp2_with fail
        obtain ⟨q1, q2⟩ := HF.out.g.fin (.int .u8 1) (.int .u8 y2) (.int .u8 0) (.int .u8 0) (.slice none 0 0) (.int .i64 0) (.slice none 0 0)
        refine bodyPost_ret (results_row_tmp rfl _ _ w.heap.size _ rfl q2) rfl ?_
        exact FieldK.some HE2.out (OrdsOwn.nil _ _) rfl q1
      · have ty : (y1 == hd0) = false := by simpa using hyh
        have HE2 : Hid (fieldM L = none) := Lib.hid (by rw [HE.out, if_neg (fun h => hyh h.2)])
        clear hyh
        go_enter Tryd.func37, Tryd.ntmps37
        go_upto_region 1 with fail
        rw [HW0.out]
        go_upto_region 2 with fail
        rw [HW1.out, HQ.out]
        clear c0
        obtain ⟨d0, d1, d2, d3, d4, d5, d6⟩ := hd
        go_upto_region 4 with fail
        rw [HW2.out]
        clear d0 d1 d2 d3 d4 d5 d6
        refine wp_region_held_drew (S := fun W => W.cell? ⟨q, 0, none⟩ = some (.int .u8 1) ∧ W.cell? ⟨q, 1, none⟩ = some (.int .u8 y2) ∧ W.cell? ⟨q, 2, none⟩ = some (.int .u8 0) ∧ W.cell? ⟨q, 3, none⟩ = some (.int .u8 0) ∧ W.cell? ⟨q, 4, none⟩ = some (.slice none 0 0) ∧ W.cell? ⟨q, 5, none⟩ = some (.int .i64 0) ∧ W.cell? ⟨q, 6, none⟩ = some (.slice none 0 0) ∧ W.cell? ⟨b, off + 1, none⟩ = some (.int .u8 y1)) (by kernel_rfl) (HR2.out.drew.s) (fun hHeld => ?_)
        refine wpAnyH_take (i := 0) (oi := { dst := some 23, op := Op.load 39 (Operand.tmp 4), type := 39, pos := "parse.go:66", after := #[], guard := none }) (v := ?_) rfl (by kernel_rfl) (by kernel_rfl) (by kernel_rfl) (fun _ _ _ h => h) (Or.inl ⟨by rfl, ?_⟩) (by assumption) ?_
        rotate_left
        focus (intro w hSw; (try dsimp only at hSw); go_simp; try (with_reducible rfl))
        try simp only [Act.put, List.setIfInBounds_toArray, List.set_cons_zero, List.set_cons_succ]
        refine wpAnyH_take (i := 1) (oi := { dst := some 24, op := Op.load 39 (Operand.tmp 4), type := 39, pos := "parse.go:66", after := #[], guard := none }) (v := ?_) rfl (by kernel_rfl) (by kernel_rfl) (by kernel_rfl) (fun _ _ _ h => h) (Or.inl ⟨by rfl, ?_⟩) (by assumption) ?_
        rotate_left
        focus (intro w hSw; (try dsimp only at hSw); go_simp; try (with_reducible rfl))
        try simp only [Act.put, List.setIfInBounds_toArray, List.set_cons_zero, List.set_cons_succ]
        refine wpAnyH_ready (rs := [2]) (by kernel_rfl) (by simp) (AllReadyH.cons (o := { dst := some 25, op := Op.call { callee := Callee.value (Operand.func 48), args := #[Operand.tmp 24], argTypes := #[39] }, type := 4, pos := "parse.go:66", after := #[{ on := 1, ground := Ground.data }], guard := none }) rfl (fun K hK => ?_) AllReadyH.nil)
        go_simp
        go_at_call 48
        refine (HAS.out _).mono ?_
        rintro e w5 ⟨rfl, b5⟩
        have HF := Lib.hid (show GR w q #[.int .u8 1, .int .u8 y2, .int .u8 0, .int .u8 0, .slice none 0 0, .int .i64 0, .slice none 0 0] b (off + 1) (.int .u8 y1) w5 from HR2.out.drew.below b5)
        obtain ⟨⟨k0, k1, k2, k3, k4, k5, k6⟩, kf⟩ := HF.out.g.c
        have kf0 := kf 0
        have kf1 := kf 1
        have kf2 := kf 2
        have kf3 := kf 3
        have kf4 := kf 4
        have kf5 := kf 5
        have kf6 := kf 6
        clear b5 kf
        go_wp2_with fail
        refine hK.out _ _ (HF.out.s) (fun hHeld => ?_)
        clear hK K
        try simp only [Act.put, List.setIfInBounds_toArray, List.set_cons_zero, List.set_cons_succ]
        refine wpAnyH_take (i := 3) (oi := { dst := some 26, op := Op.move (Operand.tmp 25), type := 4, pos := "parse.go:66", after := #[{ on := 2, ground := Ground.data }, { on := 2, ground := Ground.chain }], guard := none }) (v := ?_) rfl (by kernel_rfl) (by kernel_rfl) (by kernel_rfl) (fun _ _ _ h => h) (Or.inl ⟨by rfl, ?_⟩) (by assumption) ?_
        rotate_left
        focus (intro w hSw; (try dsimp only at hSw); go_simp; try (with_reducible rfl))
        try simp only [Act.put, List.setIfInBounds_toArray, List.set_cons_zero, List.set_cons_succ]
        refine wpAnyH_take (i := 4) (oi := { dst := some 27, op := Op.move (Operand.tmp 0), type := 22, pos := "parse.go:66", after := #[{ on := 3, ground := Ground.guard }, { on := 12, ground := Ground.gcOnly Departure.lateStores }], guard := some (3, true) }) (v := ?_) rfl (by kernel_rfl) (by kernel_rfl) (by kernel_rfl) (fun _ _ _ h => h) (Or.inl ⟨by rfl, ?_⟩) (by assumption) ?_
        rotate_left
        focus (intro w hSw; (try dsimp only at hSw); go_simp; try (with_reducible rfl))
        try simp only [Act.put, List.setIfInBounds_toArray, List.set_cons_zero, List.set_cons_succ]
        refine wpAnyH_take (i := 5) (oi := { dst := some 28, op := Op.indexAddr 22 (Operand.tmp 27) (Operand.const (Value.int IntKind.i64 1)), type := 0, pos := "parse.go:66", after := #[{ on := 4, ground := Ground.data }, { on := 3, ground := Ground.guard }, { on := 12, ground := Ground.gcOnly Departure.lateStores }], guard := some (3, true) }) (v := ?_) rfl (by kernel_rfl) (by kernel_rfl) (by kernel_rfl) (fun _ _ _ h => h) (Or.inl ⟨by rfl, ?_⟩) (by assumption) ?_
        rotate_left
        focus (intro w hSw; (try dsimp only at hSw); go_simp; try (with_reducible rfl))
        try simp only [Act.put, List.setIfInBounds_toArray, List.set_cons_zero, List.set_cons_succ]
        refine wpAnyH_take (i := 6) (oi := { dst := some 29, op := Op.load 5 (Operand.tmp 28), type := 5, pos := "parse.go:66", after := #[{ on := 5, ground := Ground.data }, { on := 3, ground := Ground.guard }, { on := 12, ground := Ground.gcOnly Departure.lateStores }], guard := some (3, true) }) (v := ?_) rfl (by kernel_rfl) (by kernel_rfl) (by kernel_rfl) (fun _ _ _ h => h) (Or.inl ⟨by rfl, ?_⟩) (by assumption) ?_
        rotate_left
        focus (intro w hSw; (try dsimp only at hSw); go_simp; try (with_reducible rfl))
        try simp only [Act.put, List.setIfInBounds_toArray, List.set_cons_zero, List.set_cons_succ]
        refine wpAnyH_take (i := 7) (oi := { dst := some 30, op := Op.fieldAddr 39 (Operand.tmp 4) 1, type := 0, pos := "parse.go:66", after := #[{ on := 3, ground := Ground.guard }], guard := some (3, true) }) (v := ?_) rfl (by kernel_rfl) (by kernel_rfl) (by kernel_rfl) (fun _ _ _ h => h) (Or.inl ⟨by rfl, ?_⟩) (by assumption) ?_
        rotate_left
        focus (intro w hSw; (try dsimp only at hSw); go_simp; try (with_reducible rfl))
        try simp only [Act.put, List.setIfInBounds_toArray, List.set_cons_zero, List.set_cons_succ]
        refine wpAnyH_take (i := 8) (oi := { dst := some 31, op := Op.load 5 (Operand.tmp 30), type := 5, pos := "parse.go:66", after := #[{ on := 7, ground := Ground.data }, { on := 3, ground := Ground.guard }], guard := some (3, true) }) (v := ?_) rfl (by kernel_rfl) (by kernel_rfl) (by kernel_rfl) (fun _ _ _ h => h) (Or.inl ⟨by rfl, ?_⟩) (by assumption) ?_
        rotate_left
        focus (intro w hSw; (try dsimp only at hSw); go_simp; try (with_reducible rfl))
        try simp only [Act.put, List.setIfInBounds_toArray, List.set_cons_zero, List.set_cons_succ]
        refine wpAnyH_ready (rs := [9]) (by kernel_rfl) (by simp) (AllReadyH.cons (o := { dst := some 32, op := Op.call { callee := Callee.value (Operand.func 49), args := #[Operand.tmp 31], argTypes := #[5] }, type := 5, pos := "parse.go:66", after := #[{ on := 8, ground := Ground.data }, { on := 3, ground := Ground.chain }, { on := 3, ground := Ground.guard }], guard := some (3, true) }) rfl (fun K hK => ?_) AllReadyH.nil)
        go_simp
        go_at_call 49
        refine (HAH.out _).mono ?_
        rintro e w6 ⟨rfl, rfl⟩
        go_wp2_with fail
        refine hK.out _ _ (HF.out.s) (fun hHeld => ?_)
        clear hK K
        try simp only [Act.put, List.setIfInBounds_toArray, List.set_cons_zero, List.set_cons_succ]
        refine wpAnyH_take (i := 10) (oi := { dst := some 33, op := Op.binOp BinOp.eql 5 (Operand.tmp 29) (Operand.tmp 32) 5, type := 4, pos := "parse.go:66", after := #[{ on := 6, ground := Ground.data }, { on := 9, ground := Ground.data }, { on := 3, ground := Ground.guard }, { on := 12, ground := Ground.gcOnly Departure.lateStores }], guard := some (3, true) }) (v := ?_) rfl (by kernel_rfl) (by kernel_rfl) (by kernel_rfl) (fun _ _ _ h => h) (Or.inl ⟨by rfl, ?_⟩) (by assumption) ?_
        rotate_left
        focus (intro w hSw; (try dsimp only at hSw); go_simp; try (with_reducible rfl))
        try simp only [Act.put, List.setIfInBounds_toArray, List.set_cons_zero, List.set_cons_succ]
        refine wpAnyH_take (i := 11) (oi := { dst := some 34, op := Op.pick (Operand.tmp 26) (Operand.tmp 33) (Operand.const (Value.bool false)), type := 4, pos := "parse.go:66", after := #[{ on := 3, ground := Ground.data }, { on := 10, ground := Ground.data }, { on := 12, ground := Ground.gcOnly Departure.lateStores }], guard := none }) (v := ?_) rfl (by kernel_rfl) (by kernel_rfl) (by kernel_rfl) (fun _ _ _ h => h) (Or.inl ⟨by rfl, ?_⟩) (by assumption) ?_
        rotate_left
        focus (intro w hSw; (try dsimp only at hSw); go_simp; try (with_reducible rfl))
        try simp only [Act.put, List.setIfInBounds_toArray, List.set_cons_zero, List.set_cons_succ]
        refine wpAnyH_ready (rs := [12]) (by kernel_rfl) (by simp) (AllReadyH.cons (o := { dst := none, op := Op.store 39 (Operand.tmp 2) (Operand.tmp 23), type := 0, pos := "parse.go:66", after := #[{ on := 0, ground := Ground.data }, { on := 9, ground := Ground.chain }, { on := 0, ground := Ground.phase }, { on := 1, ground := Ground.textOnly Departure.lateStores }, { on := 2, ground := Ground.textOnly Departure.lateStoresUnsure }, { on := 3, ground := Ground.textOnly Departure.lateStores }, { on := 4, ground := Ground.textOnly Departure.lateStores }, { on := 5, ground := Ground.textOnly Departure.lateStores }, { on := 6, ground := Ground.textOnly Departure.lateStores }, { on := 7, ground := Ground.textOnly Departure.lateStores }, { on := 8, ground := Ground.textOnly Departure.lateStores }, { on := 9, ground := Ground.textOnly Departure.lateStoresUnsure }, { on := 10, ground := Ground.textOnly Departure.lateStores }, { on := 11, ground := Ground.textOnly Departure.lateStores }], guard := none }) rfl (fun K hK => ?_) AllReadyH.nil)
        go_simp
        go_wp2_with fail
        go_wp2_with fail
        refine hK.out _ _ (HF.out.far _ _ _ _ _ _ _) (fun hHeld => ?_)
        clear hK K
        try simp only [Act.put, List.setIfInBounds_toArray, List.set_cons_zero, List.set_cons_succ]
        refine wpAnyH_take (i := 13) (oi := { dst := some 3, op := Op.assign (Operand.tmp 34), type := 4, pos := "parse.go:66", after := #[{ on := 11, ground := Ground.data }, { on := 12, ground := Ground.chain }, { on := 0, ground := Ground.phase }, { on := 1, ground := Ground.phase }, { on := 2, ground := Ground.phase }, { on := 3, ground := Ground.phase }, { on := 4, ground := Ground.phase }, { on := 5, ground := Ground.phase }, { on := 6, ground := Ground.phase }, { on := 7, ground := Ground.phase }, { on := 8, ground := Ground.phase }, { on := 9, ground := Ground.phase }, { on := 10, ground := Ground.phase }, { on := 11, ground := Ground.phase }, { on := 12, ground := Ground.phase }], guard := none }) (v := ?_) rfl (by kernel_rfl) (by kernel_rfl) (by kernel_rfl) (fun _ _ _ h => h) (Or.inl ⟨by rfl, ?_⟩) (by assumption) ?_
        rotate_left
        focus (intro w hSw; (try dsimp only at hSw); go_simp; try (with_reducible rfl))
        try simp only [Act.put, List.setIfInBounds_toArray, List.set_cons_zero, List.set_cons_succ]
        refine wpAnyH_done (by kernel_rfl) ?_ _
        go_wp2_with fail
        obtain ⟨q1, q2⟩ := HF.out.g.fin (.int .u8 1) (.int .u8 y2) (.int .u8 0) (.int .u8 0) (.slice none 0 0) (.int .i64 0) (.slice none 0 0)
        refine bodyPost_ret (results_row_tmp rfl _ _ w.heap.size _ rfl q2) rfl ?_
        exact FieldK.none HE2.out q1
  by_cases hB : x = 3 ∧ n = 2
  · obtain ⟨rfl, rfl⟩ := hB
    obtain ⟨y2, hy2⟩ : ∃ y, y = nthL L 1 := ⟨_, rfl⟩
    have u2 : W1.cell? ⟨b, off + 1, none⟩ = some (.int .u8 y2) := by rw [hy2]; exact HCELL.out W1 HC1.out 1 (by omega)
    have HR2 := Lib.hid (show GR w q #[.int .u8 3, .int .u8 y2, .int .u8 0, .int .u8 0, .slice none 0 0, .int .i64 0, .slice none 0 0] b (off + 1) (.int .u8 y2) (W1.setCell ⟨q, 1, none⟩ (.int .u8 y2)) from ⟨HG1.out.put HZ0.out 1 (.int .u8 y2), by rw [hy2]; exact HCELL.out w HCW.out 1 (by omega)⟩)
    have hqf := (cells7 HG1.out.blk).2 1
    obtain ⟨W2, hW2⟩ : ∃ W2, W2 = W1.setCell ⟨q, 1, none⟩ (.int .u8 y2) := ⟨_, rfl⟩
    rw [← hW2] at HR2
    have HW2 := Lib.hid hW2.symm
    obtain ⟨R, hR⟩ : ∃ R, R = asK 3 y2 0 := ⟨_, rfl⟩
    have HAS : Hid (∀ W, Calls Tryd.prog 48 #[.agg #[.int .u8 3, .int .u8 y2, .int .u8 0, .int .u8 0, .slice none 0 0, .int .i64 0, .slice none 0 0]] W fun r w' => r = .returned (.bool R) ∧ Below W.heap.size W w') := Lib.hid (fun W => by rw [hR]; exact as_any _ _ _ _ _ _ _ W)
    have HE : Hid (fieldM L = if R = true then some ⟨3, y2, 0, 0, [], 0⟩ else none) := Lib.hid (by
      unfold fieldM
      rw [← HX.out, ← HN.out, if_neg (by omega), if_pos ⟨rfl, rfl⟩, ← hy2, ← hR])
    have i1 : (1 : Int) < 2 := by omega
    clear hy2 hW2 hR
    go_enter Tryd.func37, Tryd.ntmps37
    go_upto_region 1 with fail
    rw [HW0.out]
    go_upto_region 2 with fail
    rw [HW1.out, HQ.out]
    clear c0
    obtain ⟨d0, d1, d2, d3, d4, d5, d6⟩ := hd
    go_upto_region 7 with fail
    rw [HW2.out]
    clear d0 d1 d2 d3 d4 d5 d6
    refine wp_region_held_drew (S := fun W => W.cell? ⟨q, 0, none⟩ = some (.int .u8 3) ∧ W.cell? ⟨q, 1, none⟩ = some (.int .u8 y2) ∧ W.cell? ⟨q, 2, none⟩ = some (.int .u8 0) ∧ W.cell? ⟨q, 3, none⟩ = some (.int .u8 0) ∧ W.cell? ⟨q, 4, none⟩ = some (.slice none 0 0) ∧ W.cell? ⟨q, 5, none⟩ = some (.int .i64 0) ∧ W.cell? ⟨q, 6, none⟩ = some (.slice none 0 0) ∧ W.cell? ⟨b, off + 1, none⟩ = some (.int .u8 y2)) (by kernel_rfl) (HR2.out.drew.s) (fun hHeld => ?_)
    refine wpAnyH_take (i := 0) (oi := { dst := some 48, op := Op.load 39 (Operand.tmp 4), type := 39, pos := "parse.go:69", after := #[], guard := none }) (v := ?_) rfl (by kernel_rfl) (by kernel_rfl) (by kernel_rfl) (fun _ _ _ h => h) (Or.inl ⟨by rfl, ?_⟩) (by assumption) ?_
    rotate_left
    focus (intro w hSw; (try dsimp only at hSw); go_simp; try (with_reducible rfl))
    try simp only [Act.put, List.setIfInBounds_toArray, List.set_cons_zero, List.set_cons_succ]
    refine wpAnyH_take (i := 1) (oi := { dst := some 49, op := Op.load 39 (Operand.tmp 4), type := 39, pos := "parse.go:69", after := #[], guard := none }) (v := ?_) rfl (by kernel_rfl) (by kernel_rfl) (by kernel_rfl) (fun _ _ _ h => h) (Or.inl ⟨by rfl, ?_⟩) (by assumption) ?_
    rotate_left
    focus (intro w hSw; (try dsimp only at hSw); go_simp; try (with_reducible rfl))
    try simp only [Act.put, List.setIfInBounds_toArray, List.set_cons_zero, List.set_cons_succ]
    refine wpAnyH_ready (rs := [2]) (by kernel_rfl) (by simp) (AllReadyH.cons (o := { dst := some 50, op := Op.call { callee := Callee.value (Operand.func 48), args := #[Operand.tmp 49], argTypes := #[39] }, type := 4, pos := "parse.go:69", after := #[{ on := 1, ground := Ground.data }], guard := none }) rfl (fun K hK => ?_) AllReadyH.nil)
    go_simp
    go_at_call 48
    refine (HAS.out _).mono ?_
    rintro e w5 ⟨rfl, b5⟩
    have HF := Lib.hid (show GR w q #[.int .u8 3, .int .u8 y2, .int .u8 0, .int .u8 0, .slice none 0 0, .int .i64 0, .slice none 0 0] b (off + 1) (.int .u8 y2) w5 from HR2.out.drew.below b5)
    obtain ⟨⟨k0, k1, k2, k3, k4, k5, k6⟩, kf⟩ := HF.out.g.c
    have kf0 := kf 0
    have kf1 := kf 1
    have kf2 := kf 2
    have kf3 := kf 3
    have kf4 := kf 4
    have kf5 := kf 5
    have kf6 := kf 6
    clear b5 kf
    go_wp2_with fail
    refine hK.out _ _ (HF.out.s) (fun hHeld => ?_)
    clear hK K
    try simp only [Act.put, List.setIfInBounds_toArray, List.set_cons_zero, List.set_cons_succ]
    refine wpAnyH_ready (rs := [3]) (by kernel_rfl) (by simp) (AllReadyH.cons (o := { dst := none, op := Op.store 39 (Operand.tmp 2) (Operand.tmp 48), type := 0, pos := "parse.go:69", after := #[{ on := 0, ground := Ground.data }, { on := 2, ground := Ground.chain }, { on := 0, ground := Ground.phase }, { on := 1, ground := Ground.textOnly Departure.lateStores }, { on := 2, ground := Ground.textOnly Departure.lateStoresUnsure }], guard := none }) rfl (fun K hK => ?_) AllReadyH.nil)
    go_simp
    go_wp2_with fail
    go_wp2_with fail
    refine hK.out _ _ (HF.out.far _ _ _ _ _ _ _) (fun hHeld => ?_)
    clear hK K
    try simp only [Act.put, List.setIfInBounds_toArray, List.set_cons_zero, List.set_cons_succ]
    refine wpAnyH_take (i := 4) (oi := { dst := some 3, op := Op.assign (Operand.tmp 50), type := 4, pos := "parse.go:69", after := #[{ on := 2, ground := Ground.data }, { on := 3, ground := Ground.chain }, { on := 0, ground := Ground.phase }, { on := 1, ground := Ground.phase }, { on := 2, ground := Ground.phase }, { on := 3, ground := Ground.phase }], guard := none }) (v := ?_) rfl (by kernel_rfl) (by kernel_rfl) (by kernel_rfl) (fun _ _ _ h => h) (Or.inl ⟨by rfl, ?_⟩) (by assumption) ?_
    rotate_left
    focus (intro w hSw; (try dsimp only at hSw); go_simp; try (with_reducible rfl))
    try simp only [Act.put, List.setIfInBounds_toArray, List.set_cons_zero, List.set_cons_succ]
    refine wpAnyH_done (by kernel_rfl) ?_ _
    go_wp2_with fail
    obtain ⟨q1, q2⟩ := HF.out.g.fin (.int .u8 3) (.int .u8 y2) (.int .u8 0) (.int .u8 0) (.slice none 0 0) (.int .i64 0) (.slice none 0 0)
    refine bodyPost_ret (results_row_tmp rfl _ _ w.heap.size _ rfl q2) rfl ?_
    cases R
    · exact FieldK.none (by rw [HE.out, if_neg (by decide)]) q1
    · exact FieldK.some (os := []) (P := []) (by rw [HE.out, if_pos rfl]) (OrdsOwn.nil _ _) rfl q1
  by_cases hC : x = 64 ∧ 3 ≤ n
  · obtain ⟨rfl, hn3⟩ := hC
    obtain ⟨y1, hy1⟩ : ∃ y, y = nthL L 1 := ⟨_, rfl⟩
    obtain ⟨y2, hy2⟩ : ∃ y, y = nthL L 2 := ⟨_, rfl⟩
    obtain ⟨k, hk⟩ : ∃ k, k = toldK y2 := ⟨_, rfl⟩
    have TW : Hid (∀ W, Below w.heap.size w W → W.cell? ⟨b, off + 1, none⟩ = some (.int .u8 y1) ∧ W.cell? ⟨b, off + 2, none⟩ = some (.int .u8 y2)) := Lib.hid (fun W h => by
      rw [hy1, hy2]
      exact ⟨HCELL.out W (HCW.out.below h) 1 (by omega), HCELL.out W (HCW.out.below h) 2 (by omega)⟩)
    have HTOLD : Hid (∀ W, Tbl W → Calls Tryd.prog 20 #[.int .u8 y2] W fun e w' => e = .returned (.int .u8 k) ∧ Below W.heap.size W w') := Lib.hid (fun W h => by rw [hk]; exact told_any h y2)
    obtain ⟨R, hR⟩ : ∃ R, R = asK 64 y1 k := ⟨_, rfl⟩
    have HAS : Hid (∀ W, Calls Tryd.prog 48 #[.agg #[.int .u8 64, .int .u8 y1, .int .u8 k, .int .u8 0, .slice none 0 0, .int .i64 0, .slice none 0 0]] W fun r w' => r = .returned (.bool R) ∧ Below W.heap.size W w') := Lib.hid (fun W => by rw [hR]; exact as_any _ _ _ _ _ _ _ W)
    have HE : Hid (fieldM L = if R = true ∧ (oneM (L.drop 2)).2 = 0 then some ⟨64, y1, (oneM (L.drop 2)).1.kind, (oneM (L.drop 2)).1.wcc, (oneM (L.drop 2)).1.ords, (oneM (L.drop 2)).1.err⟩ else none) := Lib.hid (by
      unfold fieldM
      rw [← HX.out, ← HN.out, if_neg (by omega), if_neg (by omega), if_pos ⟨rfl, hn3⟩, ← hy2, ← hy1, ← hk, ← hR])
    have HK243 : Hid (R = true → L.drop 2 ≠ [] → toldK (nthL (L.drop 2) 0) ≠ 243) := Lib.hid (fun hr _ => by
      have e : nthL (L.drop 2) 0 = y2 := by rw [hy2]; unfold nthL; rw [List.getElem?_drop]
      rw [e, ← hk]
      rintro rfl
      rw [hr] at hR
      simp [asK, hasK] at hR)
    have HPB : Hid (∀ x ∈ L.drop 2, 0 ≤ x ∧ x < 256) := Lib.hid fun x hx => HBY.out x (List.mem_of_mem_drop hx)
    have HPM : Hid ((L.drop 2).length ≤ 1000000) := Lib.hid (by rw [List.length_drop]; have := HMX.out; omega)
    have HCUT : Hid (∀ W, Below w.heap.size w W → CutRow W (sliced (some ⟨b, off, none⟩) 2 n c 1) (L.drop 2)) := Lib.hid (fun W h => by
      have h3 := slice_mid (HCW.out.below h) 2 n (by omega) (Nat.le_refl _)
      rwa [List.take_of_length_le (by rw [← HN.out]; exact Nat.le_refl _)] at h3)
    obtain ⟨vs, hvs⟩ : ∃ vs, vs = sliced (some ⟨b, off, none⟩) 2 n c 1 := ⟨_, rfl⟩
    have hsl : ∀ W, (Instr.slice 22 (.slice (some ⟨b, off, none⟩) n c) (some (.int .i64 2)) none none).run Tryd.prog W = .ok vs W := fun W => by rw [hvs]; exact slice_run_from 2 (by omega) hncap W
    rw [← hvs] at HCUT
    have j1 : (1 : Int) < (n : Int) := by omega
    have j2 : (2 : Int) < (n : Int) := by omega
    have j3 : (3 : Int) ≤ (n : Int) := by omega
    clear hy1 hy2 hk hR hvs
    go_enter Tryd.func37, Tryd.ntmps37
    go_upto_region 1 with fail
    rw [HW0.out]
    go_upto_region 2 with fail
    rw [HW1.out, HQ.out]
    clear c0
    obtain ⟨d0, d1, d2, d3, d4, d5, d6⟩ := hd
    go_upto_region 9 with fail
    clear d0 d1 d2 d3 d4 d5 d6
    refine wp_region_held_drew (S := fun W => W.cell? ⟨b, off + 1, none⟩ = some (.int .u8 y1) ∧ W.cell? ⟨b, off + 2, none⟩ = some (.int .u8 y2)) (by kernel_rfl) (TW.out _ HG1.out.drew.old) (fun hHeld => ?_)
    refine wpAnyH_take (i := 0) (oi := { dst := some 60, op := Op.move (Operand.tmp 0), type := 22, pos := "parse.go:72", after := #[], guard := none }) (v := ?_) rfl (by kernel_rfl) (by kernel_rfl) (by kernel_rfl) (fun _ _ _ h => h) (Or.inl ⟨by rfl, ?_⟩) (by assumption) ?_
    rotate_left
    focus (intro w hSw; (try dsimp only at hSw); go_simp; try (with_reducible rfl))
    try simp only [Act.put, List.setIfInBounds_toArray, List.set_cons_zero, List.set_cons_succ]
    refine wpAnyH_take (i := 1) (oi := { dst := some 61, op := Op.indexAddr 22 (Operand.tmp 60) (Operand.const (Value.int IntKind.i64 1)), type := 0, pos := "parse.go:72", after := #[{ on := 0, ground := Ground.data }], guard := none }) (v := ?_) rfl (by kernel_rfl) (by kernel_rfl) (by kernel_rfl) (fun _ _ _ h => h) (Or.inl ⟨by rfl, ?_⟩) (by assumption) ?_
    rotate_left
    focus (intro w hSw; (try dsimp only at hSw); go_simp; try (with_reducible rfl))
    try simp only [Act.put, List.setIfInBounds_toArray, List.set_cons_zero, List.set_cons_succ]
    refine wpAnyH_take (i := 2) (oi := { dst := some 62, op := Op.load 5 (Operand.tmp 61), type := 5, pos := "parse.go:72", after := #[{ on := 1, ground := Ground.data }], guard := none }) (v := ?_) rfl (by kernel_rfl) (by kernel_rfl) (by kernel_rfl) (fun _ _ _ h => h) (Or.inl ⟨by rfl, ?_⟩) (by assumption) ?_
    rotate_left
    focus (intro w hSw; (try dsimp only at hSw); go_simp; try (with_reducible rfl))
    try simp only [Act.put, List.setIfInBounds_toArray, List.set_cons_zero, List.set_cons_succ]
    refine wpAnyH_take (i := 3) (oi := { dst := some 63, op := Op.move (Operand.tmp 0), type := 22, pos := "parse.go:72", after := #[], guard := none }) (v := ?_) rfl (by kernel_rfl) (by kernel_rfl) (by kernel_rfl) (fun _ _ _ h => h) (Or.inl ⟨by rfl, ?_⟩) (by assumption) ?_
    rotate_left
    focus (intro w hSw; (try dsimp only at hSw); go_simp; try (with_reducible rfl))
    try simp only [Act.put, List.setIfInBounds_toArray, List.set_cons_zero, List.set_cons_succ]
    refine wpAnyH_take (i := 4) (oi := { dst := some 64, op := Op.indexAddr 22 (Operand.tmp 63) (Operand.const (Value.int IntKind.i64 2)), type := 0, pos := "parse.go:72", after := #[{ on := 3, ground := Ground.data }], guard := none }) (v := ?_) rfl (by kernel_rfl) (by kernel_rfl) (by kernel_rfl) (fun _ _ _ h => h) (Or.inl ⟨by rfl, ?_⟩) (by assumption) ?_
    rotate_left
    focus (intro w hSw; (try dsimp only at hSw); go_simp; try (with_reducible rfl))
    try simp only [Act.put, List.setIfInBounds_toArray, List.set_cons_zero, List.set_cons_succ]
    refine wpAnyH_take (i := 5) (oi := { dst := some 65, op := Op.load 5 (Operand.tmp 64), type := 5, pos := "parse.go:72", after := #[{ on := 4, ground := Ground.data }], guard := none }) (v := ?_) rfl (by kernel_rfl) (by kernel_rfl) (by kernel_rfl) (fun _ _ _ h => h) (Or.inl ⟨by rfl, ?_⟩) (by assumption) ?_
    rotate_left
    focus (intro w hSw; (try dsimp only at hSw); go_simp; try (with_reducible rfl))
    try simp only [Act.put, List.setIfInBounds_toArray, List.set_cons_zero, List.set_cons_succ]
    refine wpAnyH_take (i := 7) (oi := { dst := some 67, op := Op.fieldAddr 39 (Operand.tmp 4) 1, type := 0, pos := "parse.go:72", after := #[{ on := 0, ground := Ground.phase }, { on := 1, ground := Ground.phase }, { on := 2, ground := Ground.phase }, { on := 3, ground := Ground.textOnly Departure.lateStores }, { on := 4, ground := Ground.textOnly Departure.lateStores }, { on := 5, ground := Ground.textOnly Departure.lateStores }, { on := 6, ground := Ground.textOnly Departure.lateStoresUnsure }], guard := none }) (v := ?_) rfl (by kernel_rfl) (by kernel_rfl) (by kernel_rfl) (fun _ _ _ h => h) (Or.inl ⟨by rfl, ?_⟩) (by assumption) ?_
    rotate_left
    focus (intro w hSw; (try dsimp only at hSw); go_simp; try (with_reducible rfl))
    try simp only [Act.put, List.setIfInBounds_toArray, List.set_cons_zero, List.set_cons_succ]
    refine wpAnyH_ready (rs := [6]) (by kernel_rfl) (by simp) (AllReadyH.cons (o := { dst := some 66, op := Op.call { callee := Callee.value (Operand.func 20), args := #[Operand.tmp 65], argTypes := #[5] }, type := 5, pos := "parse.go:72", after := #[{ on := 5, ground := Ground.data }], guard := none }) rfl (fun K hK => ?_) AllReadyH.nil)
    go_simp
    go_at_call 20
    refine (HTOLD.out _ HG1.out.drew.tb).mono ?_
    rintro e w5 ⟨rfl, b5⟩
    have HF := Lib.hid (HG1.out.drew.below b5)
    obtain ⟨⟨e0, e1, e2, e3, e4, e5, e6⟩, ef⟩ := cells7 HF.out.blk
    have ef1 := ef 1
    have ef2 := ef 2
    clear b5 ef
    go_wp2_with fail
    refine hK.out _ _ (TW.out _ HF.out.old) (fun hHeld => ?_)
    clear hK K
    try simp only [Act.put, List.setIfInBounds_toArray, List.set_cons_zero, List.set_cons_succ]
    refine wpAnyH_ready (rs := [8]) (by kernel_rfl) (by simp) (AllReadyH.cons (o := { dst := none, op := Op.store 5 (Operand.tmp 67) (Operand.tmp 62), type := 0, pos := "parse.go:72", after := #[{ on := 7, ground := Ground.data }, { on := 2, ground := Ground.data }, { on := 6, ground := Ground.chain }, { on := 0, ground := Ground.phase }, { on := 1, ground := Ground.phase }, { on := 2, ground := Ground.phase }, { on := 3, ground := Ground.textOnly Departure.lateStores }, { on := 4, ground := Ground.textOnly Departure.lateStores }, { on := 5, ground := Ground.textOnly Departure.lateStores }, { on := 6, ground := Ground.textOnly Departure.lateStoresUnsure }], guard := none }) rfl (fun K hK => ?_) AllReadyH.nil)
    go_simp
    go_wp2_with fail
    go_wp2_with fail
    refine hK.out _ _ (TW.out _ (HF.out.put HZ0.out 1 _).old) (fun hHeld => ?_)
    clear hK K
    try simp only [Act.put, List.setIfInBounds_toArray, List.set_cons_zero, List.set_cons_succ]
    refine wpAnyH_take (i := 9) (oi := { dst := some 68, op := Op.fieldAddr 39 (Operand.tmp 4) 2, type := 0, pos := "parse.go:72", after := #[{ on := 0, ground := Ground.phase }, { on := 1, ground := Ground.phase }, { on := 2, ground := Ground.phase }, { on := 3, ground := Ground.phase }, { on := 4, ground := Ground.phase }, { on := 5, ground := Ground.phase }, { on := 6, ground := Ground.phase }, { on := 7, ground := Ground.phase }, { on := 8, ground := Ground.phase }], guard := none }) (v := ?_) rfl (by kernel_rfl) (by kernel_rfl) (by kernel_rfl) (fun _ _ _ h => h) (Or.inl ⟨by rfl, ?_⟩) (by assumption) ?_
    rotate_left
    focus (intro w hSw; (try dsimp only at hSw); go_simp; try (with_reducible rfl))
    try simp only [Act.put, List.setIfInBounds_toArray, List.set_cons_zero, List.set_cons_succ]
    refine wpAnyH_take (i := 10) (oi := { dst := some 69, op := Op.fieldAddr 28 (Operand.tmp 68) 0, type := 0, pos := "parse.go:72", after := #[{ on := 9, ground := Ground.data }, { on := 0, ground := Ground.phase }, { on := 1, ground := Ground.phase }, { on := 2, ground := Ground.phase }, { on := 3, ground := Ground.phase }, { on := 4, ground := Ground.phase }, { on := 5, ground := Ground.phase }, { on := 6, ground := Ground.phase }, { on := 7, ground := Ground.phase }, { on := 8, ground := Ground.phase }], guard := none }) (v := ?_) rfl (by kernel_rfl) (by kernel_rfl) (by kernel_rfl) (fun _ _ _ h => h) (Or.inl ⟨by rfl, ?_⟩) (by assumption) ?_
    rotate_left
    focus (intro w hSw; (try dsimp only at hSw); go_simp; try (with_reducible rfl))
    try simp only [Act.put, List.setIfInBounds_toArray, List.set_cons_zero, List.set_cons_succ]
    refine wpAnyH_ready (rs := [11]) (by kernel_rfl) (by simp) (AllReadyH.cons (o := { dst := none, op := Op.store 5 (Operand.tmp 69) (Operand.tmp 66), type := 0, pos := "parse.go:72", after := #[{ on := 10, ground := Ground.data }, { on := 6, ground := Ground.data }, { on := 8, ground := Ground.chain }, { on := 0, ground := Ground.phase }, { on := 1, ground := Ground.phase }, { on := 2, ground := Ground.phase }, { on := 3, ground := Ground.phase }, { on := 4, ground := Ground.phase }, { on := 5, ground := Ground.phase }, { on := 6, ground := Ground.phase }, { on := 7, ground := Ground.phase }, { on := 8, ground := Ground.phase }], guard := none }) rfl (fun K hK => ?_) AllReadyH.nil)
    go_simp
    go_wp2_with fail
    go_wp2_with fail
    refine hK.out _ _ (TW.out _ ((HF.out.put HZ0.out 1 _).put HZ0.out 2 _).old) (fun hHeld => ?_)
    clear hK K
    try simp only [Act.put, List.setIfInBounds_toArray, List.set_cons_zero, List.set_cons_succ]
    refine wpAnyH_done (by kernel_rfl) ?_ _
    have HG6 := Lib.hid (show GQ w q #[.int .u8 64, .int .u8 y1, .int .u8 k, .int .u8 0, .slice none 0 0, .int .i64 0, .slice none 0 0] ((w5.setCell ⟨q, 1, none⟩ (.int .u8 y1)).setCell ⟨q, 2, none⟩ (.int .u8 k)) from (HF.out.put HZ0.out 1 (.int .u8 y1)).put HZ0.out 2 (.int .u8 k))
    obtain ⟨W6, hW6⟩ : ∃ W6, W6 = (w5.setCell ⟨q, 1, none⟩ (.int .u8 y1)).setCell ⟨q, 2, none⟩ (.int .u8 k) := ⟨_, rfl⟩
    rw [← hW6] at HG6 ⊢
    clear hW6 e0 e1 e2 e3 e4 e5 e6 ef1 ef2
    obtain ⟨e0, e1, e2, e3, e4, e5, e6⟩ := HG6.out.s
    go_wp2_with fail
    refine (HAS.out _).mono ?_
    rintro e W7 ⟨rfl, b7⟩
    have HG7 := Lib.hid (HG6.out.below b7)
    clear b7 e0 e1 e2 e3 e4 e5 e6
    cases R
    · obtain ⟨⟨k0, k1, k2, k3, k4, k5, k6⟩, kf⟩ := HG7.out.c
      have kf0 := kf 0
      have kf1 := kf 1
      have kf2 := kf 2
      have kf3 := kf 3
      have kf4 := kf 4
      have kf5 := kf 5
      have kf6 := kf 6
      go_wp2_with fail
      obtain ⟨q1, q2⟩ := HG7.out.fin (.int .u8 0) (.int .u8 0) (.int .u8 0) (.int .u8 0) (.slice none 0 0) (.int .i64 0) (.slice none 0 0)
      refine bodyPost_ret (results_row_tmp rfl _ _ w.heap.size _ rfl q2) rfl ?_
      exact FieldK.none (by rw [HE.out, if_neg (by rintro ⟨h, _⟩; cases h)]) q1
    · go_wp2_with fail
      refine (one_any HG7.out.tb vs (L.drop 2) (HCUT.out _ HG7.out.old) HPB.out HPM.out (HK243.out (by trivial))).mono ?_
      rintro e W8 ⟨vo, P, he, hP, hPm, b8⟩
      obtain ⟨⟨⟨K, C, os, E, fs⟩, E2⟩, hT⟩ : ∃ T, T = oneM (L.drop 2) := ⟨_, rfl⟩
      rw [← hT] at he hPm HE
      subst he
      have HG8 := Lib.hid (HG7.out.below b8)
      have HSQ : Hid (q < W7.heap.size ∧ w.heap.size < W7.heap.size) := Lib.hid ⟨lt_of_block HG7.out.blk, lt_of_block HG7.out.res⟩
      have HP8 := Lib.hid hP
      have HPM8 := Lib.hid hPm
      obtain ⟨ua, uc, rfl⟩ := hP.form
      obtain ⟨um, hum⟩ : ∃ um, um = P.length := ⟨_, rfl⟩
      rw [← hum] at HP8 ⊢
      clear b8 hP hPm hum hT
      have HG9 := Lib.hid (show GQ w q #[.int .u8 64, .int .u8 y1, .int .u8 K, .int .u8 C, .slice ua um uc, .int .i64 E, .slice none 0 0] (((((W8.setCell ⟨q, 2, none⟩ (.int .u8 K)).setCell ⟨q, 3, none⟩ (.int .u8 C)).setCell ⟨q, 4, none⟩ (.slice ua um uc)).setCell ⟨q, 5, none⟩ (.int .i64 E)).setCell ⟨q, 6, none⟩ (.slice none 0 0)) from ((((HG8.out.put HZ0.out 2 (.int .u8 K)).put HZ0.out 3 (.int .u8 C)).put HZ0.out 4 (.slice ua um uc)).put HZ0.out 5 (.int .i64 E)).put HZ0.out 6 (.slice none 0 0))
      have HT9 := Lib.hid (((((turn_set W8 q 2 (.int .u8 K)).trans (turn_set _ q 3 (.int .u8 C))).trans (turn_set _ q 4 (.slice ua um uc))).trans (turn_set _ q 5 (.int .i64 E))).trans (turn_set _ q 6 (.slice none 0 0)))
      have HP9 := Lib.hid (HP8.out.turn HT9.out fun k hk => by have : k = q := hk; have := HSQ.out; omega)
      obtain ⟨⟨e0, e1, e2, e3, e4, e5, e6⟩, ef⟩ := cells7 HG8.out.blk
      have ef2 := ef 2
      have ef3 := ef 3
      have ef4 := ef 4
      have ef5 := ef 5
      have ef6 := ef 6
      obtain ⟨W9, hW9⟩ : ∃ W9, W9 = ((((W8.setCell ⟨q, 2, none⟩ (.int .u8 K)).setCell ⟨q, 3, none⟩ (.int .u8 C)).setCell ⟨q, 4, none⟩ (.slice ua um uc)).setCell ⟨q, 5, none⟩ (.int .i64 E)).setCell ⟨q, 6, none⟩ (.slice none 0 0) := ⟨_, rfl⟩
      rw [← hW9] at HG9 HP9
      have HW9 := Lib.hid hW9.symm
      clear hW9 ef HT9
      go_upto_region 14 with fail
      rw [HW9.out]
      clear e0 e1 e2 e3 e4 e5 e6 ef2 ef3 ef4 ef5 ef6
      obtain ⟨e0, e1, e2, e3, e4, e5, e6⟩ := HG9.out.s
      obtain ⟨⟨k0, k1, k2, k3, k4, k5, k6⟩, kf⟩ := HG9.out.c
      have kf0 := kf 0
      have kf1 := kf 1
      have kf2 := kf 2
      have kf3 := kf 3
      have kf4 := kf 4
      have kf5 := kf 5
      have kf6 := kf 6
      have he2 : E2 = 0 ∨ (E2 == 0) = false := by simp; omega
      rcases he2 with rfl | he2
      · go_wp2_with fail
        obtain ⟨q1, q2⟩ := HG9.out.fin (.int .u8 64) (.int .u8 y1) (.int .u8 K) (.int .u8 C) (.slice ua um uc) (.int .i64 E) (.slice none 0 0)
        have HP10 := (HP9.out.turn (put7_turn W9 w.heap.size (.int .u8 64) (.int .u8 y1) (.int .u8 K) (.int .u8 C) (.slice ua um uc) (.int .i64 E) (.slice none 0 0)) fun k hk => by have : k = w.heap.size := hk; have := HSQ.out; omega).lower (Nat.le_of_lt HSQ.out.2)
        refine bodyPost_ret (results_row_tmp rfl _ _ w.heap.size _ rfl q2) rfl ?_
        exact FieldK.some (show fieldM L = some ⟨64, y1, K, C, os, E⟩ from HE.out.trans (if_pos (And.intro (by simp) (by simp)))) HP10 HPM8.out q1
      · go_wp2_with fail
        obtain ⟨q1, q2⟩ := HG9.out.fin (.int .u8 64) (.int .u8 y1) (.int .u8 K) (.int .u8 C) (.slice ua um uc) (.int .i64 E) (.slice none 0 0)
        have HP10 := (HP9.out.turn (put7_turn W9 w.heap.size (.int .u8 64) (.int .u8 y1) (.int .u8 K) (.int .u8 C) (.slice ua um uc) (.int .i64 E) (.slice none 0 0)) fun k hk => by have : k = w.heap.size := hk; have := HSQ.out; omega).lower (Nat.le_of_lt HSQ.out.2)
        refine bodyPost_ret (results_row_tmp rfl _ _ w.heap.size _ rfl q2) rfl ?_
        exact FieldK.none (show fieldM L = none from HE.out.trans (if_neg (fun h => by have h2 := h.2; rw [h2] at he2; simp at he2))) q1
  have HE : Hid (fieldM L = none) := Lib.hid (by
    unfold fieldM
    rw [← HX.out, ← HN.out, if_neg hA, if_neg hB, if_neg hC])
  have hD : (x = 1 ∧ ((n : Int) == 3) = false) ∨ (x = 3 ∧ ((n : Int) == 2) = false) ∨ (x = 64 ∧ ¬ (3 : Int) ≤ (n : Int)) ∨ ((x == 1) = false ∧ (x == 3) = false ∧ (x == 64) = false) := by simp; omega
  clear hA hB hC
  rcases hD with ⟨rfl, t1⟩ | ⟨rfl, t1⟩ | ⟨rfl, t1⟩ | ⟨t1, t2, t3⟩
  all_goals
    go_enter Tryd.func37, Tryd.ntmps37
    go_upto_region 1 with fail
    rw [HW0.out]
    go_upto_region 2 with fail
    rw [HW1.out, HQ.out]
    clear c0
    obtain ⟨d0, d1, d2, d3, d4, d5, d6⟩ := hd
    obtain ⟨⟨k0, k1, k2, k3, k4, k5, k6⟩, kf⟩ := HG1.out.c
    have kf0 := kf 0
    have kf1 := kf 1
    have kf2 := kf 2
    have kf3 := kf 3
    have kf4 := kf 4
    have kf5 := kf 5
    have kf6 := kf 6
    go_wp2_with fail
    obtain ⟨q1, q2⟩ := HG1.out.fin (.int .u8 0) (.int .u8 0) (.int .u8 0) (.int .u8 0) (.slice none 0 0) (.int .i64 0) (.slice none 0 0)
    refine bodyPost_ret (results_row_tmp rfl _ _ w.heap.size _ rfl q2) rfl ?_
    exact FieldK.none HE.out q1
end Go.Proofs.YtmmgebiojpnhcaaDoor.Cmd
