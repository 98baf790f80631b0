/-
  The reference of orders: One.
-/
import Derived.Test.YtjeknociobbhpaaDoorRef12P
namespace Go.Proofs.YtjeknociobbhpaaDoor.Ord
open Go.RowKit Base
set_option linter.unusedVariables false
set_option linter.unusedSimpArgs false

theorem results_cell_two {fn : Func} {p u x : Tmp} {ty : TypeId} (h : fn.results = #[.cell p ty, .tmp u, .tmp x]) (tmps : Array Value) (w : World) (g : Nat) (cs : Array Value)
    (hp : tmps.getD p undef = .pointer (some ⟨g, 0, none⟩)) (hrun : (loadVar ty ⟨g, 0, none⟩).run Tryd.prog w = .ok (.agg cs) w) :
    (results fn tmps).run Tryd.prog w = .ok (.tuple #[.agg cs, tmps.getD u undef, tmps.getD x undef]) w := by
  have hp' : tmps[p]?.getD undef = .pointer (some ⟨g, 0, none⟩) := by simpa using hp
  simp only [results, h]
  simp [Result.andThen, hp', asAddr, hrun]
/-- The result in block r0, the order in block r1. -/
structure OS (w : World) (r0 r1 : Nat) (k a b : Int) (g : Bool) (vp : Value) (W : World) : Prop where
  res : W.heap[r0]? = some (.cells #[.int .u8 0, .int .i64 0, .int .u8 0, .bool false, .slice none 0 0, .slice none 0 0] 35 (0, 0))
  box : W.heap[r1]? = some (.cells #[.int .u8 k, .int .i64 a, .int .u8 b, .bool g, vp, .slice none 0 0] 35 (0, 0))
  old : Below w.heap.size w W
  h0 : r0 = w.heap.size
  h1 : r1 = r0 + 1
section
variable {w W W' : World} {r0 r1 : Nat} {k a b : Int} {g : Bool} {vp : Value}
theorem OS.below (h : OS w r0 r1 k a b g vp W) (t : Below W.heap.size W W') : OS w r0 r1 k a b g vp W' :=
  ⟨(t.block _ (lt_of_block h.res)).trans h.res, (t.block _ (lt_of_block h.box)).trans h.box, h.old.trans (t.mono h.old.size), h.h0, h.h1⟩
theorem OS.set (h : OS w r0 r1 k a b g vp W) (o : Nat) (v : Value) {k' a' b' : Int} {g' : Bool} {vp' : Value} (he : (#[.int .u8 k, .int .i64 a, .int .u8 b, .bool g, vp, .slice none 0 0] : Array Value).setIfInBounds o v = #[.int .u8 k', .int .i64 a', .int .u8 b', .bool g', vp', .slice none 0 0]) : OS w r0 r1 k' a' b' g' vp' (W.setCell ⟨r1, o, none⟩ v) := by
  have h0 := h.h0; have h1 := h.h1
  refine ⟨(Below.heap_setCell _ _ _ _ (by show r0 ≠ r1; omega)).trans h.res, ?_, h.old.setCell (by show _ ≤ r1; omega) _, h.h0, h.h1⟩
  rw [← he]
  exact heap_set h.box o v
theorem OS.fin (h : OS w r0 r1 k a b g vp W) (x0 x1 x2 x3 x4 x5 : Value) : Below w.heap.size w (put6 W r0 x0 x1 x2 x3 x4 x5) ∧ (put6 W r0 x0 x1 x2 x3 x4 x5).heap[r0]? = some (.cells #[x0, x1, x2, x3, x4, x5] 35 (0, 0)) := by
  have h0 := h.h0
  exact ⟨h.old.trans ((put6_turn W r0 x0 x1 x2 x3 x4 x5).at_below h.old.size (by omega)), put6_row h.res ..⟩
end
theorem keep7 {W : World} {r0 r1 g : Nat} {o : Nat} {x k : Int} {v : Value} (h1 : ¬ g = r0) (h2 : ¬ r1 = r0) (hx : W.cell? ⟨g, o, none⟩ = some (.int .u8 x)) (b0 : W.cell? ⟨r1, 0, none⟩ = some (.int .u8 k)) (b1 : W.cell? ⟨r1, 1, none⟩ = some (.int .i64 0)) (b2 : W.cell? ⟨r1, 2, none⟩ = some (.int .u8 0)) (b3 : W.cell? ⟨r1, 3, none⟩ = some (.bool false)) (b4 : W.cell? ⟨r1, 4, none⟩ = some v) (b5 : W.cell? ⟨r1, 5, none⟩ = some (.slice none 0 0)) (x0 x1 x2 x3 x4 x5 : Value) :
    (((((((W.setCell ⟨r0, 0, none⟩ x0).setCell ⟨r0, 1, none⟩ x1).setCell ⟨r0, 2, none⟩ x2).setCell ⟨r0, 3, none⟩ x3).setCell ⟨r0, 4, none⟩ x4).setCell ⟨r0, 5, none⟩ x5).drew.cell? ⟨g, o, none⟩ = some (.int .u8 x) ∧ ((((((W.setCell ⟨r0, 0, none⟩ x0).setCell ⟨r0, 1, none⟩ x1).setCell ⟨r0, 2, none⟩ x2).setCell ⟨r0, 3, none⟩ x3).setCell ⟨r0, 4, none⟩ x4).setCell ⟨r0, 5, none⟩ x5).drew.cell? ⟨r1, 0, none⟩ = some (.int .u8 k) ∧ ((((((W.setCell ⟨r0, 0, none⟩ x0).setCell ⟨r0, 1, none⟩ x1).setCell ⟨r0, 2, none⟩ x2).setCell ⟨r0, 3, none⟩ x3).setCell ⟨r0, 4, none⟩ x4).setCell ⟨r0, 5, none⟩ x5).drew.cell? ⟨r1, 1, none⟩ = some (.int .i64 0) ∧ ((((((W.setCell ⟨r0, 0, none⟩ x0).setCell ⟨r0, 1, none⟩ x1).setCell ⟨r0, 2, none⟩ x2).setCell ⟨r0, 3, none⟩ x3).setCell ⟨r0, 4, none⟩ x4).setCell ⟨r0, 5, none⟩ x5).drew.cell? ⟨r1, 2, none⟩ = some (.int .u8 0) ∧ ((((((W.setCell ⟨r0, 0, none⟩ x0).setCell ⟨r0, 1, none⟩ x1).setCell ⟨r0, 2, none⟩ x2).setCell ⟨r0, 3, none⟩ x3).setCell ⟨r0, 4, none⟩ x4).setCell ⟨r0, 5, none⟩ x5).drew.cell? ⟨r1, 3, none⟩ = some (.bool false) ∧ ((((((W.setCell ⟨r0, 0, none⟩ x0).setCell ⟨r0, 1, none⟩ x1).setCell ⟨r0, 2, none⟩ x2).setCell ⟨r0, 3, none⟩ x3).setCell ⟨r0, 4, none⟩ x4).setCell ⟨r0, 5, none⟩ x5).drew.cell? ⟨r1, 4, none⟩ = some v ∧ ((((((W.setCell ⟨r0, 0, none⟩ x0).setCell ⟨r0, 1, none⟩ x1).setCell ⟨r0, 2, none⟩ x2).setCell ⟨r0, 3, none⟩ x3).setCell ⟨r0, 4, none⟩ x4).setCell ⟨r0, 5, none⟩ x5).drew.cell? ⟨r1, 5, none⟩ = some (.slice none 0 0)) := by
  have hk : ∀ q, ¬ q = r0 → ((((((W.setCell ⟨r0, 0, none⟩ x0).setCell ⟨r0, 1, none⟩ x1).setCell ⟨r0, 2, none⟩ x2).setCell ⟨r0, 3, none⟩ x3).setCell ⟨r0, 4, none⟩ x4).setCell ⟨r0, 5, none⟩ x5).heap[q]? = W.heap[q]? := fun q hq =>
    (Below.heap_setCell _ _ _ _ hq).trans ((Below.heap_setCell _ _ _ _ hq).trans ((Below.heap_setCell _ _ _ _ hq).trans ((Below.heap_setCell _ _ _ _ hq).trans ((Below.heap_setCell _ _ _ _ hq).trans (Below.heap_setCell _ _ _ _ hq)))))
  obtain ⟨W', hW'⟩ : ∃ W', W' = ((((((W.setCell ⟨r0, 0, none⟩ x0).setCell ⟨r0, 1, none⟩ x1).setCell ⟨r0, 2, none⟩ x2).setCell ⟨r0, 3, none⟩ x3).setCell ⟨r0, 4, none⟩ x4).setCell ⟨r0, 5, none⟩ x5) := ⟨_, rfl⟩
  rw [← hW'] at hk ⊢
  clear hW'
  have hc : ∀ q f, ¬ q = r0 → W'.drew.cell? ⟨q, f, none⟩ = W.cell? ⟨q, f, none⟩ := fun q f hq => cell_block (w' := W'.drew) (hk q hq) f
  exact ⟨(hc _ _ h1).trans hx, (hc _ _ h2).trans b0, (hc _ _ h2).trans b1, (hc _ _ h2).trans b2, (hc _ _ h2).trans b3, (hc _ _ h2).trans b4, (hc _ _ h2).trans b5⟩
theorem PairRow.put {s r0 : Nat} {W : World} {v : Value} {ps : List (Int × Int)} (h : PairRow s W v ps) (hr : r0 < s) (x0 x1 x2 x3 x4 x5 : Value) : PairRow s (put6 W r0 x0 x1 x2 x3 x4 x5) v ps := h.turn (put6_turn ..) fun k hk => by rw [show k = r0 from hk]; exact hr
theorem chain_load {W : World} {r0 : Nat} {y0 y1 y2 y3 y4 y5 : Value} (h : W.heap[r0]? = some (.cells #[y0, y1, y2, y3, y4, y5] 35 (0, 0))) (x0 x1 x2 x3 x4 x5 : Value) : (loadVar 35 ⟨r0, 0, none⟩).run Tryd.prog ((((((W.setCell ⟨r0, 0, none⟩ x0).setCell ⟨r0, 1, none⟩ x1).setCell ⟨r0, 2, none⟩ x2).setCell ⟨r0, 3, none⟩ x3).setCell ⟨r0, 4, none⟩ x4).setCell ⟨r0, 5, none⟩ x5).drew = .ok (.agg #[x0, x1, x2, x3, x4, x5]) ((((((W.setCell ⟨r0, 0, none⟩ x0).setCell ⟨r0, 1, none⟩ x1).setCell ⟨r0, 2, none⟩ x2).setCell ⟨r0, 3, none⟩ x3).setCell ⟨r0, 4, none⟩ x4).setCell ⟨r0, 5, none⟩ x5).drew := by
  have h6 := put6_row h x0 x1 x2 x3 x4 x5
  unfold put6 at h6
  obtain ⟨W', hW'⟩ : ∃ W', W' = ((((((W.setCell ⟨r0, 0, none⟩ x0).setCell ⟨r0, 1, none⟩ x1).setCell ⟨r0, 2, none⟩ x2).setCell ⟨r0, 3, none⟩ x3).setCell ⟨r0, 4, none⟩ x4).setCell ⟨r0, 5, none⟩ x5) := ⟨_, rfl⟩
  rw [← hW'] at h6 ⊢
  exact load_ord (W := W'.drew) h6 rfl
theorem OS.finD {w W : World} {r0 r1 : Nat} {k a b : Int} {g : Bool} {vp : Value} (h : OS w r0 r1 k a b g vp W) (x0 x1 x2 x3 x4 x5 : Value) : Below w.heap.size w ((((((W.setCell ⟨r0, 0, none⟩ x0).setCell ⟨r0, 1, none⟩ x1).setCell ⟨r0, 2, none⟩ x2).setCell ⟨r0, 3, none⟩ x3).setCell ⟨r0, 4, none⟩ x4).setCell ⟨r0, 5, none⟩ x5).drew := by
  have := (h.fin x0 x1 x2 x3 x4 x5).1
  unfold put6 at this
  obtain ⟨W', hW'⟩ : ∃ W', W' = ((((((W.setCell ⟨r0, 0, none⟩ x0).setCell ⟨r0, 1, none⟩ x1).setCell ⟨r0, 2, none⟩ x2).setCell ⟨r0, 3, none⟩ x3).setCell ⟨r0, 4, none⟩ x4).setCell ⟨r0, 5, none⟩ x5) := ⟨_, rfl⟩
  rw [← hW'] at this ⊢
  exact this.drew
theorem PairRow.putD {s r0 : Nat} {W : World} {v : Value} {ps : List (Int × Int)} (h : PairRow s W v ps) (hr : r0 < s) (x0 x1 x2 x3 x4 x5 : Value) : PairRow s ((((((W.setCell ⟨r0, 0, none⟩ x0).setCell ⟨r0, 1, none⟩ x1).setCell ⟨r0, 2, none⟩ x2).setCell ⟨r0, 3, none⟩ x3).setCell ⟨r0, 4, none⟩ x4).setCell ⟨r0, 5, none⟩ x5).drew v ps := by
  have := h.put hr x0 x1 x2 x3 x4 x5
  unfold put6 at this
  obtain ⟨W', hW'⟩ : ∃ W', W' = ((((((W.setCell ⟨r0, 0, none⟩ x0).setCell ⟨r0, 1, none⟩ x1).setCell ⟨r0, 2, none⟩ x2).setCell ⟨r0, 3, none⟩ x3).setCell ⟨r0, 4, none⟩ x4).setCell ⟨r0, 5, none⟩ x5) := ⟨_, rfl⟩
  rw [← hW'] at this ⊢
  exact this.keep fun g _ _ => rfl
def OneK (w : World) (i : Nat) (r : Rd Or) (e : Ending) (w' : World) : Prop := ∃ V m, e = .returned (.tuple #[V, .int .i64 m, .int .i64 (errR r)]) ∧ (∀ o l, r = .ok o l → m = (l : Int) - i ∧ OrdV w.heap.size w' o V) ∧ (∃ (k a b : Int) (g : Bool) (p1 q1 : Option Addr) (p2 p3 q2 q3 : Nat), V = .agg #[.int .u8 k, .int .i64 a, .int .u8 b, .bool g, .slice p1 p2 p3, .slice q1 q2 q3]) ∧ Below w.heap.size w w'

theorem one_ok {w w' : World} {i l : Nat} {R : Rd Or} {o : Or} {k a b : Int} {g : Bool} {p1 q1 : Option Addr} {p2 p3 q2 q3 : Nat} {m : Int} {e : Ending} (hR : R = .ok o l) (hm : m = (l : Int) - i) (hV : OrdV w.heap.size w' o (.agg #[.int .u8 k, .int .i64 a, .int .u8 b, .bool g, .slice p1 p2 p3, .slice q1 q2 q3])) (hB : Below w.heap.size w w') (he : e = .returned (.tuple #[.agg #[.int .u8 k, .int .i64 a, .int .u8 b, .bool g, .slice p1 p2 p3, .slice q1 q2 q3], .int .i64 m, .int .i64 0])) : OneK w i R e w' := by
  subst hR he
  refine ⟨_, _, rfl, fun o' l' e => ?_, ⟨_, _, _, _, _, _, _, _, _, _, rfl⟩, hB⟩
  injection e with e e2
  subst e e2
  exact ⟨hm, hV⟩
theorem one_bad {w w' : World} {i : Nat} {R : Rd Or} {f : Flt} {k a b : Int} {g : Bool} {p1 q1 : Option Addr} {p2 p3 q2 q3 : Nat} {m : Int} {e : Ending} (hR : R = .bad f) (hB : Below w.heap.size w w') (he : e = .returned (.tuple #[.agg #[.int .u8 k, .int .i64 a, .int .u8 b, .bool g, .slice p1 p2 p3, .slice q1 q2 q3], .int .i64 m, .int .i64 (errOf (some f))])) : OneK w i R e w' := by
  subst hR he
  exact ⟨_, _, rfl, fun o l e => (by cases e), ⟨_, _, _, _, _, _, _, _, _, _, rfl⟩, hB⟩
set_option maxRecDepth 100000 in
set_option maxHeartbeats 8000000 in
theorem rone_any {w : World} {v : Value} {L : List Int} (h : RowOf .u8 w v L) (hL : ∀ x ∈ L, 0 ≤ x ∧ x < 256) (hl : L.length ≤ 900000) (i : Nat) (hi : i < L.length) :
    Calls Tryd.prog 24 #[v, .int .i64 i] w (OneK w i (ordK L (L[i]?.getD 0) (i + 1))) := by
  obtain ⟨k, hk⟩ : ∃ k, k = L[i]?.getD 0 := ⟨_, rfl⟩
  rw [← hk]
  obtain ⟨R, hR⟩ : ∃ R, R = ordK L k (i + 1) := ⟨_, rfl⟩
  rw [← hR]
  obtain ⟨Wz, hWz⟩ : ∃ Wz, Wz = w.alloc (.cells #[.int .u8 0, .int .i64 0, .int .u8 0, .bool false, .slice none 0 0, .slice none 0 0] 35) := ⟨_, rfl⟩
  have hzb := below_alloc w (.cells #[.int .u8 0, .int .i64 0, .int .u8 0, .bool false, .slice none 0 0, .slice none 0 0] 35)
  have hzn := heap_alloc_new w (.cells #[.int .u8 0, .int .i64 0, .int .u8 0, .bool false, .slice none 0 0, .slice none 0 0] 35)
  have hzs := World.size_alloc w (.cells #[.int .u8 0, .int .i64 0, .int .u8 0, .bool false, .slice none 0 0, .slice none 0 0] 35)
  rw [← hWz] at hzb hzn hzs
  have hbn := heap_alloc_new Wz (.cells #[.int .u8 k, .int .i64 0, .int .u8 0, .bool false, .slice none 0 0, .slice none 0 0] 35)
  have hbb := below_alloc Wz (.cells #[.int .u8 k, .int .i64 0, .int .u8 0, .bool false, .slice none 0 0, .slice none 0 0] 35)
  obtain ⟨W1, hW1⟩ : ∃ W1, W1 = Wz.alloc (.cells #[.int .u8 k, .int .i64 0, .int .u8 0, .bool false, .slice none 0 0, .slice none 0 0] 35) := ⟨_, rfl⟩
  rw [← hW1] at hbn hbb
  obtain ⟨r0, hr0⟩ : ∃ r0, r0 = w.heap.size := ⟨_, rfl⟩
  obtain ⟨r1, hr1⟩ : ∃ r1, r1 = Wz.heap.size := ⟨_, rfl⟩
  rw [← hr0] at hzn
  rw [← hr1] at hbn
  have HOS : Hid (OS w r0 r1 k 0 0 false (.slice none 0 0) W1) := Lib.hid ⟨(hbb.block r0 (lt_of_block hzn)).trans hzn, hbn, hzb.trans (hbb.mono hzb.size), hr0, by omega⟩
  have hrow := h.lowK
  obtain ⟨va, vc, rfl, _⟩ := h
  obtain ⟨gg, off, rfl, hgl, hcell⟩ : ∃ gg off, va = some ⟨gg, off, none⟩ ∧ gg < r0 ∧ ∀ j, j < L.length → w.cell? ⟨gg, off + j, none⟩ = some (.int .u8 (L[j]?.getD 0)) := by
    obtain ⟨_, _, e, hc⟩ := hrow
    injection e with e1 e2 e3
    subst e1
    obtain ⟨gg, off, e, hg, _, hc⟩ := hc (by intro e; rw [e] at hi; simp at hi)
    exact ⟨gg, off, e, by rw [hr0]; exact hg, hc⟩
  obtain ⟨ln, hln⟩ : ∃ ln, ln = L.length := ⟨_, rfl⟩
  rw [← hln] at hl hi ⊢
  have HCE : Hid (∀ W, Below w.heap.size w W → ∀ j, j < ln → W.cell? ⟨gg, off + j, none⟩ = some (.int .u8 (L[j]?.getD 0))) := Lib.hid fun W t j hj => (cell_block (t.block gg (by rw [← hr0]; exact hgl)) _).trans (hcell j (by rw [← hln]; exact hj))
  have HBY : Hid (∀ j, j < ln → 0 ≤ L[j]?.getD 0 ∧ L[j]?.getD 0 < 256) := Lib.hid fun j hj => hL _ (by
    have : j < L.length := by rw [← hln]; exact hj
    rw [List.getElem?_eq_getElem this]; exact List.getElem_mem this)
  have HROW : Hid (∀ W, Below w.heap.size w W → RowOf .u8 W (.slice (some ⟨gg, off, none⟩) ln vc) L) := Lib.hid fun W t => by rw [hln] at *; exact (hrow.below t).row
  have HLN := Lib.hid hln
  have HR := Lib.hid hR
  have HK := Lib.hid hk
  have HWz := Lib.hid hWz.symm
  have HW1 := Lib.hid hW1.symm
  have HR0 := Lib.hid hr0.symm
  have HR1 : Hid (r0 + 1 = r1) := Lib.hid HOS.out.h1.symm
  have hne1 : ¬ r0 = r1 := by have := HR1.out; omega
  have hne2 : ¬ r1 = r0 := by have := HR1.out; omega
  have hne3 : ¬ gg = r1 := by have := HR1.out; omega
  have hne4 : ¬ gg = r0 := by omega
  have hne5 : ¬ r1 = gg := by have := HR1.out; omega
  have hne6 : ¬ r0 = gg := by omega
  obtain ⟨lf, hlf⟩ : ∃ lf : Int, lf = (ln : Int) - (i : Int) := ⟨_, rfl⟩
  have HLF := Lib.hid hlf
  have hlf' : (ln : Int) - (i : Int) = lf := hlf.symm
  have hci := HCE.out _ (below_alloc w (.cells #[.int .u8 0, .int .i64 0, .int .u8 0, .bool false, .slice none 0 0, .slice none 0 0] 35)) i hi
  rw [← hk] at hci
  have hii : (i : Int) < (ln : Int) := by omega
  have hi0 : (0 : Int) ≤ (i : Int) := Int.natCast_nonneg _
  have HCI := Lib.hid (show W1.cell? ⟨gg, off + i, none⟩ = some (.int .u8 k) by rw [HCE.out W1 HOS.out.old i hi, ← hk])
  clear hR hk hWz hzb hzn hzs hbn hbb hW1 hr0 hr1 hcell hrow hln hlf
  rcases ord_cases k with rfl | rfl | rfl | rfl | rfl | rfl | rfl | rfl | rfl | rfl | ⟨k1, k2, k3, k4, k5, k6, k7, k8, k9, k10⟩
  · have HRE : Hid (R = .ok ⟨5, 0, 0, false, [], []⟩ (i + 1)) := Lib.hid (by rw [HR.out]; rfl)
    go_enter Tryd.func24, Tryd.ntmps24
    go_upto_region 4 with fail
    rw [HWz.out, HW1.out, HR0.out, HR1.out]
    clear hci
    obtain ⟨c0, c1, c2, c3, c4, c5, fr0, fr1, fr2, fr3, fr4, fr5⟩ := cells6 HOS.out.box
    obtain ⟨_, _, _, _, _, _, f0, f1, f2, f3, f4, f5⟩ := cells6 HOS.out.res
    go_wp2_with fail
    refine bodyPost_ret (results_cell_two rfl _ _ r0 _ rfl (load_ord (put6_row HOS.out.res ..) rfl)) rfl ?_
    obtain ⟨B, _⟩ := HOS.out.fin _ _ _ _ _ _
    exact one_ok HRE.out (by omega) ⟨_, _, rfl, ⟨rfl, .inl ⟨rfl, rfl⟩⟩, OwnBytes.nil _ _⟩ B rfl
  · have HRE : Hid (R = .ok ⟨19, 0, 0, false, [], []⟩ (i + 1)) := Lib.hid (by rw [HR.out]; rfl)
    go_enter Tryd.func24, Tryd.ntmps24
    go_upto_region 4 with fail
    rw [HWz.out, HW1.out, HR0.out, HR1.out]
    clear hci
    obtain ⟨c0, c1, c2, c3, c4, c5, fr0, fr1, fr2, fr3, fr4, fr5⟩ := cells6 HOS.out.box
    obtain ⟨_, _, _, _, _, _, f0, f1, f2, f3, f4, f5⟩ := cells6 HOS.out.res
    go_wp2_with fail
    refine bodyPost_ret (results_cell_two rfl _ _ r0 _ rfl (load_ord (put6_row HOS.out.res ..) rfl)) rfl ?_
    obtain ⟨B, _⟩ := HOS.out.fin _ _ _ _ _ _
    exact one_ok HRE.out (by omega) ⟨_, _, rfl, ⟨rfl, .inl ⟨rfl, rfl⟩⟩, OwnBytes.nil _ _⟩ B rfl
  · by_cases h3 : lf < 3
    · have HRE : Hid (R = .bad .short) := Lib.hid (by rw [HR.out]; exact place_short (show L.length ≤ i + 1 + 1 by have := HLF.out; have := HLN.out; omega))
      go_enter Tryd.func24, Tryd.ntmps24
      go_upto_region 4 with fail
      rw [HWz.out, HW1.out, HR0.out, HR1.out]
      clear hci
      obtain ⟨c0, c1, c2, c3, c4, c5, fr0, fr1, fr2, fr3, fr4, fr5⟩ := cells6 HOS.out.box
      obtain ⟨_, _, _, _, _, _, f0, f1, f2, f3, f4, f5⟩ := cells6 HOS.out.res
      go_wp2_with fail
      refine bodyPost_ret (results_cell_two rfl _ _ r0 _ rfl (load_ord (put6_row HOS.out.res ..) rfl)) rfl ?_
      obtain ⟨B, _⟩ := HOS.out.fin _ _ _ _ _ _
      exact one_bad HRE.out B rfl
    · have hlf3 := HLF.out
      have hj1 : i + 1 < ln := by omega
      have hj1i : (i : Int) + 1 < (ln : Int) := by omega
      have hj1p : (0 : Int) ≤ (i : Int) + 1 := by omega
      have tn1 : ((i : Int) + 1).toNat = i + 1 := by omega
      obtain ⟨x, hx⟩ : ∃ x, x = L[i + 1]?.getD 0 := ⟨_, rfl⟩
      obtain ⟨x0, x1⟩ := HBY.out (i + 1) hj1
      rw [← hx] at x0 x1
      have Hx := Lib.hid (show L[i + 1]? = some x by rw [hx, List.getElem?_eq_getElem (by rw [← HLN.out]; omega)]; rfl)
      have hcx := HCE.out W1 HOS.out.old (i + 1) hj1
      rw [← hx] at hcx
      clear hx
      have hj2 : i + 2 < ln := by omega
      have hj2i : (i : Int) + 2 < (ln : Int) := by omega
      have hj2p : (0 : Int) ≤ (i : Int) + 2 := by omega
      have tn2 : ((i : Int) + 2).toNat = i + 2 := by omega
      obtain ⟨y, hy⟩ : ∃ x, x = L[i + 2]?.getD 0 := ⟨_, rfl⟩
      obtain ⟨y0, y1⟩ := HBY.out (i + 2) hj2
      rw [← hy] at y0 y1
      have Hy := Lib.hid (show L[i + 2]? = some y by rw [hy, List.getElem?_eq_getElem (by rw [← HLN.out]; omega)]; rfl)
      have hcy := HCE.out W1 HOS.out.old (i + 2) hj2
      rw [← hy] at hcy
      clear hy
      have HRE : Hid (R = .ok ⟨17, dec x y, 0, false, [], []⟩ (i + 3)) := Lib.hid (by rw [HR.out]; exact place_ok Hx.out Hy.out)
      clear hlf3
      have w1 : IntKind.i64.wrap ((i : Int) + 1) = (i : Int) + 1 := IntWalk.i64_in _ (by omega)
      have w2 : IntKind.i64.wrap ((i : Int) + 2) = (i : Int) + 2 := IntWalk.i64_in _ (by omega)
      have w3 : IntKind.i64.wrap ((i : Int) + 3) = (i : Int) + 3 := IntWalk.i64_in _ (by omega)
      have w4 : IntKind.i64.wrap ((i : Int) + 4) = (i : Int) + 4 := IntWalk.i64_in _ (by omega)
      go_enter Tryd.func24, Tryd.ntmps24
      go_upto_region 4 with fail
      rw [HWz.out, HW1.out, HR0.out, HR1.out]
      clear hci
      go_upto_region 24 with fail
      have HOS2 := Lib.hid (HOS.out.set 1 (.int .i64 (dec x y)) (k' := _) (a' := dec x y) (b' := 0) (g' := false) (vp' := .slice none 0 0) rfl)
      obtain ⟨_, _, _, _, _, _, fr0, fr1, fr2, fr3, fr4, fr5⟩ := cells6 HOS.out.box
      have fr1d : W1.drew.frozen? ⟨r1, 1, none⟩ = false := fr1
      have hb1d : (W1.drew.cell? ⟨r1, 1, none⟩).isSome = true := by rw [show W1.drew.cell? ⟨r1, 1, none⟩ = some (.int .i64 0) from (cells6 HOS.out.box).2.1]; rfl
      have hb1 : W1.drew.cell? ⟨r1, 1, none⟩ = some (.int .i64 0) := (cells6 HOS.out.box).2.1
      have e1 : W1.drew.cell? ⟨gg, off + (i + 1), none⟩ = some (.int .u8 x) := hcx
      have e2 : W1.drew.cell? ⟨gg, off + (i + 2), none⟩ = some (.int .u8 y) := hcy
      have K := Lib.hid (show ∀ v, ((W1.setCell ⟨r1, 1, none⟩ v).drew.cell? ⟨gg, off + (i + 1), none⟩ = some (.int .u8 x) ∧ (W1.setCell ⟨r1, 1, none⟩ v).drew.cell? ⟨gg, off + (i + 2), none⟩ = some (.int .u8 y)) from fun v => ⟨(cell_block (Below.heap_setCell _ _ _ _ (fun e => hne3 e)) _).trans hcx, (cell_block (Below.heap_setCell _ _ _ _ (fun e => hne3 e)) _).trans hcy⟩)
      have HDC : Hid (Calls Tryd.prog 41 #[.int .u8 x, .int .u8 y] W1.drew fun e w' => e = .returned (.int .i64 (dec x y)) ∧ W1.drew = w') := Lib.hid (by have := Dig.rdecode_any x y W1.drew x0 (by omega) y0 (by omega); rw [decP_dec] at this; exact this)
      clear hcx hcy fr0 fr1 fr2 fr3 fr4 fr5
      first
      | (go_region_held3 (fun Z => Z.cell? ⟨gg, off + (i + 1), none⟩ = some (.int .u8 x) ∧ Z.cell? ⟨gg, off + (i + 2), none⟩ = some (.int .u8 y)) (first | assumption | exact ⟨e1, e2⟩ | exact K.out _) (first | (go_at_call 41; refine HDC.out.mono ?_; rintro e w' ⟨rfl, rfl⟩)))
      | fail
      all_goals
        have hos3 := HOS2.out.below (Below.refl _ _).drew
        obtain ⟨W2, hW2⟩ : ∃ W2, W2 = (W1.setCell ⟨r1, 1, none⟩ (.int .i64 (dec x y))).drew := ⟨_, rfl⟩
        rw [← hW2] at hos3 ⊢
        have HOS3 := Lib.hid hos3
        clear hos3 hW2 hb1 hb1d fr1d e1 e2
        obtain ⟨c0, c1, c2, c3, c4, c5, fr0, fr1, fr2, fr3, fr4, fr5⟩ := cells6 HOS3.out.box
        obtain ⟨_, _, _, _, _, _, f0, f1, f2, f3, f4, f5⟩ := cells6 HOS3.out.res
        go_wp2_with fail
        refine bodyPost_ret (results_cell_two rfl _ _ r0 _ rfl (load_ord (put6_row HOS3.out.res ..) rfl)) rfl ?_
        obtain ⟨B, _⟩ := HOS3.out.fin _ _ _ _ _ _
        exact one_ok HRE.out (by omega) ⟨_, _, rfl, ⟨rfl, .inl ⟨rfl, rfl⟩⟩, OwnBytes.nil _ _⟩ B rfl
  · by_cases h3 : lf < 3
    · have HRE : Hid (R = .bad .short) := Lib.hid (by rw [HR.out]; exact place_short (show L.length ≤ i + 1 + 1 by have := HLF.out; have := HLN.out; omega))
      go_enter Tryd.func24, Tryd.ntmps24
      go_upto_region 4 with fail
      rw [HWz.out, HW1.out, HR0.out, HR1.out]
      clear hci
      obtain ⟨c0, c1, c2, c3, c4, c5, fr0, fr1, fr2, fr3, fr4, fr5⟩ := cells6 HOS.out.box
      obtain ⟨_, _, _, _, _, _, f0, f1, f2, f3, f4, f5⟩ := cells6 HOS.out.res
      go_wp2_with fail
      refine bodyPost_ret (results_cell_two rfl _ _ r0 _ rfl (load_ord (put6_row HOS.out.res ..) rfl)) rfl ?_
      obtain ⟨B, _⟩ := HOS.out.fin _ _ _ _ _ _
      exact one_bad HRE.out B rfl
    · have hlf3 := HLF.out
      have hj1 : i + 1 < ln := by omega
      have hj1i : (i : Int) + 1 < (ln : Int) := by omega
      have hj1p : (0 : Int) ≤ (i : Int) + 1 := by omega
      have tn1 : ((i : Int) + 1).toNat = i + 1 := by omega
      obtain ⟨x, hx⟩ : ∃ x, x = L[i + 1]?.getD 0 := ⟨_, rfl⟩
      obtain ⟨x0, x1⟩ := HBY.out (i + 1) hj1
      rw [← hx] at x0 x1
      have Hx := Lib.hid (show L[i + 1]? = some x by rw [hx, List.getElem?_eq_getElem (by rw [← HLN.out]; omega)]; rfl)
      have hcx := HCE.out W1 HOS.out.old (i + 1) hj1
      rw [← hx] at hcx
      clear hx
      have hj2 : i + 2 < ln := by omega
      have hj2i : (i : Int) + 2 < (ln : Int) := by omega
      have hj2p : (0 : Int) ≤ (i : Int) + 2 := by omega
      have tn2 : ((i : Int) + 2).toNat = i + 2 := by omega
      obtain ⟨y, hy⟩ : ∃ x, x = L[i + 2]?.getD 0 := ⟨_, rfl⟩
      obtain ⟨y0, y1⟩ := HBY.out (i + 2) hj2
      rw [← hy] at y0 y1
      have Hy := Lib.hid (show L[i + 2]? = some y by rw [hy, List.getElem?_eq_getElem (by rw [← HLN.out]; omega)]; rfl)
      have hcy := HCE.out W1 HOS.out.old (i + 2) hj2
      rw [← hy] at hcy
      clear hy
      have HRE : Hid (R = .ok ⟨18, dec x y, 0, false, [], []⟩ (i + 3)) := Lib.hid (by rw [HR.out]; exact place_ok Hx.out Hy.out)
      clear hlf3
      have w1 : IntKind.i64.wrap ((i : Int) + 1) = (i : Int) + 1 := IntWalk.i64_in _ (by omega)
      have w2 : IntKind.i64.wrap ((i : Int) + 2) = (i : Int) + 2 := IntWalk.i64_in _ (by omega)
      have w3 : IntKind.i64.wrap ((i : Int) + 3) = (i : Int) + 3 := IntWalk.i64_in _ (by omega)
      have w4 : IntKind.i64.wrap ((i : Int) + 4) = (i : Int) + 4 := IntWalk.i64_in _ (by omega)
      go_enter Tryd.func24, Tryd.ntmps24
      go_upto_region 4 with fail
      rw [HWz.out, HW1.out, HR0.out, HR1.out]
      clear hci
      go_upto_region 24 with fail
      have HOS2 := Lib.hid (HOS.out.set 1 (.int .i64 (dec x y)) (k' := _) (a' := dec x y) (b' := 0) (g' := false) (vp' := .slice none 0 0) rfl)
      obtain ⟨_, _, _, _, _, _, fr0, fr1, fr2, fr3, fr4, fr5⟩ := cells6 HOS.out.box
      have fr1d : W1.drew.frozen? ⟨r1, 1, none⟩ = false := fr1
      have hb1d : (W1.drew.cell? ⟨r1, 1, none⟩).isSome = true := by rw [show W1.drew.cell? ⟨r1, 1, none⟩ = some (.int .i64 0) from (cells6 HOS.out.box).2.1]; rfl
      have hb1 : W1.drew.cell? ⟨r1, 1, none⟩ = some (.int .i64 0) := (cells6 HOS.out.box).2.1
      have e1 : W1.drew.cell? ⟨gg, off + (i + 1), none⟩ = some (.int .u8 x) := hcx
      have e2 : W1.drew.cell? ⟨gg, off + (i + 2), none⟩ = some (.int .u8 y) := hcy
      have K := Lib.hid (show ∀ v, ((W1.setCell ⟨r1, 1, none⟩ v).drew.cell? ⟨gg, off + (i + 1), none⟩ = some (.int .u8 x) ∧ (W1.setCell ⟨r1, 1, none⟩ v).drew.cell? ⟨gg, off + (i + 2), none⟩ = some (.int .u8 y)) from fun v => ⟨(cell_block (Below.heap_setCell _ _ _ _ (fun e => hne3 e)) _).trans hcx, (cell_block (Below.heap_setCell _ _ _ _ (fun e => hne3 e)) _).trans hcy⟩)
      have HDC : Hid (Calls Tryd.prog 41 #[.int .u8 x, .int .u8 y] W1.drew fun e w' => e = .returned (.int .i64 (dec x y)) ∧ W1.drew = w') := Lib.hid (by have := Dig.rdecode_any x y W1.drew x0 (by omega) y0 (by omega); rw [decP_dec] at this; exact this)
      clear hcx hcy fr0 fr1 fr2 fr3 fr4 fr5
      first
      | (go_region_held3 (fun Z => Z.cell? ⟨gg, off + (i + 1), none⟩ = some (.int .u8 x) ∧ Z.cell? ⟨gg, off + (i + 2), none⟩ = some (.int .u8 y)) (first | assumption | exact ⟨e1, e2⟩ | exact K.out _) (first | (go_at_call 41; refine HDC.out.mono ?_; rintro e w' ⟨rfl, rfl⟩)))
      | fail
      all_goals
        have hos3 := HOS2.out.below (Below.refl _ _).drew
        obtain ⟨W2, hW2⟩ : ∃ W2, W2 = (W1.setCell ⟨r1, 1, none⟩ (.int .i64 (dec x y))).drew := ⟨_, rfl⟩
        rw [← hW2] at hos3 ⊢
        have HOS3 := Lib.hid hos3
        clear hos3 hW2 hb1 hb1d fr1d e1 e2
        obtain ⟨c0, c1, c2, c3, c4, c5, fr0, fr1, fr2, fr3, fr4, fr5⟩ := cells6 HOS3.out.box
        obtain ⟨_, _, _, _, _, _, f0, f1, f2, f3, f4, f5⟩ := cells6 HOS3.out.res
        go_wp2_with fail
        refine bodyPost_ret (results_cell_two rfl _ _ r0 _ rfl (load_ord (put6_row HOS3.out.res ..) rfl)) rfl ?_
        obtain ⟨B, _⟩ := HOS3.out.fin _ _ _ _ _ _
        exact one_ok HRE.out (by omega) ⟨_, _, rfl, ⟨rfl, .inl ⟨rfl, rfl⟩⟩, OwnBytes.nil _ _⟩ B rfl
  · by_cases h2 : lf < 2
    · have HRE : Hid (R = .bad .short) := Lib.hid (by rw [HR.out]; exact nx1_short (show L.length ≤ i + 1 by have := HLF.out; have := HLN.out; omega))
      go_enter Tryd.func24, Tryd.ntmps24
      go_upto_region 4 with fail
      rw [HWz.out, HW1.out, HR0.out, HR1.out]
      clear hci
      obtain ⟨c0, c1, c2, c3, c4, c5, fr0, fr1, fr2, fr3, fr4, fr5⟩ := cells6 HOS.out.box
      obtain ⟨_, _, _, _, _, _, f0, f1, f2, f3, f4, f5⟩ := cells6 HOS.out.res
      go_wp2_with fail
      refine bodyPost_ret (results_cell_two rfl _ _ r0 _ rfl (load_ord (put6_row HOS.out.res ..) rfl)) rfl ?_
      obtain ⟨B, _⟩ := HOS.out.fin _ _ _ _ _ _
      exact one_bad HRE.out B rfl
    · have hlf3 := HLF.out
      have hj1 : i + 1 < ln := by omega
      have hj1i : (i : Int) + 1 < (ln : Int) := by omega
      have hj1p : (0 : Int) ≤ (i : Int) + 1 := by omega
      have tn1 : ((i : Int) + 1).toNat = i + 1 := by omega
      obtain ⟨x, hx⟩ : ∃ x, x = L[i + 1]?.getD 0 := ⟨_, rfl⟩
      obtain ⟨x0, x1⟩ := HBY.out (i + 1) hj1
      rw [← hx] at x0 x1
      have Hx := Lib.hid (show L[i + 1]? = some x by rw [hx, List.getElem?_eq_getElem (by rw [← HLN.out]; omega)]; rfl)
      have hcx := HCE.out W1 HOS.out.old (i + 1) hj1
      rw [← hx] at hcx
      clear hx
      clear hlf3
      by_cases hx64 : x < 64
      · have HRE : Hid (R = .bad .none) := Lib.hid (by rw [HR.out]; exact ge_bad Hx.out hx64)
        go_enter Tryd.func24, Tryd.ntmps24
        go_upto_region 4 with fail
        rw [HWz.out, HW1.out, HR0.out, HR1.out]
        clear hci
        obtain ⟨c0, c1, c2, c3, c4, c5, fr0, fr1, fr2, fr3, fr4, fr5⟩ := cells6 HOS.out.box
        obtain ⟨_, _, _, _, _, _, f0, f1, f2, f3, f4, f5⟩ := cells6 HOS.out.res
        go_wp2_with fail
        refine bodyPost_ret (results_cell_two rfl _ _ r0 _ rfl (load_ord (put6_row HOS.out.res ..) rfl)) rfl ?_
        obtain ⟨B, _⟩ := HOS.out.fin _ _ _ _ _ _
        exact one_bad HRE.out B rfl
      · have HRE : Hid (R = .ok ⟨8, 0, x, false, [], []⟩ (i + 2)) := Lib.hid (by rw [HR.out]; exact ge_ok Hx.out hx64)
        have HOS2 := Lib.hid (HOS.out.set 2 (.int .u8 x) (k' := 8) (a' := 0) (b' := x) (g' := false) (vp' := .slice none 0 0) rfl)
        go_enter Tryd.func24, Tryd.ntmps24
        go_upto_region 4 with fail
        rw [HWz.out, HW1.out, HR0.out, HR1.out]
        clear hci
        obtain ⟨c0, c1, c2, c3, c4, c5, fr0, fr1, fr2, fr3, fr4, fr5⟩ := cells6 HOS.out.box
        obtain ⟨_, _, _, _, _, _, f0, f1, f2, f3, f4, f5⟩ := cells6 HOS.out.res
        go_wp2_with fail
        refine bodyPost_ret (results_cell_two rfl _ _ r0 _ rfl (load_ord (put6_row HOS2.out.res ..) rfl)) rfl ?_
        obtain ⟨B, _⟩ := HOS2.out.fin _ _ _ _ _ _
        exact one_ok HRE.out (by omega) ⟨_, _, rfl, ⟨rfl, .inl ⟨rfl, rfl⟩⟩, OwnBytes.nil _ _⟩ B rfl
  · by_cases h4 : lf < 4
    · have HRE : Hid (R = .bad .short) := Lib.hid (by rw [HR.out]; exact ra_short (show L.length ≤ i + 3 by have := HLF.out; have := HLN.out; omega))
      go_enter Tryd.func24, Tryd.ntmps24
      go_upto_region 4 with fail
      rw [HWz.out, HW1.out, HR0.out, HR1.out]
      clear hci
      obtain ⟨c0, c1, c2, c3, c4, c5, fr0, fr1, fr2, fr3, fr4, fr5⟩ := cells6 HOS.out.box
      obtain ⟨_, _, _, _, _, _, f0, f1, f2, f3, f4, f5⟩ := cells6 HOS.out.res
      go_wp2_with fail
      refine bodyPost_ret (results_cell_two rfl _ _ r0 _ rfl (load_ord (put6_row HOS.out.res ..) rfl)) rfl ?_
      obtain ⟨B, _⟩ := HOS.out.fin _ _ _ _ _ _
      exact one_bad HRE.out B rfl
    · have hlf3 := HLF.out
      have hj1 : i + 1 < ln := by omega
      have hj1i : (i : Int) + 1 < (ln : Int) := by omega
      have hj1p : (0 : Int) ≤ (i : Int) + 1 := by omega
      have tn1 : ((i : Int) + 1).toNat = i + 1 := by omega
      obtain ⟨x, hx⟩ : ∃ x, x = L[i + 1]?.getD 0 := ⟨_, rfl⟩
      obtain ⟨x0, x1⟩ := HBY.out (i + 1) hj1
      rw [← hx] at x0 x1
      have Hx := Lib.hid (show L[i + 1]? = some x by rw [hx, List.getElem?_eq_getElem (by rw [← HLN.out]; omega)]; rfl)
      have hcx := HCE.out W1 HOS.out.old (i + 1) hj1
      rw [← hx] at hcx
      clear hx
      have hj2 : i + 2 < ln := by omega
      have hj2i : (i : Int) + 2 < (ln : Int) := by omega
      have hj2p : (0 : Int) ≤ (i : Int) + 2 := by omega
      have tn2 : ((i : Int) + 2).toNat = i + 2 := by omega
      obtain ⟨y, hy⟩ : ∃ x, x = L[i + 2]?.getD 0 := ⟨_, rfl⟩
      obtain ⟨y0, y1⟩ := HBY.out (i + 2) hj2
      rw [← hy] at y0 y1
      have Hy := Lib.hid (show L[i + 2]? = some y by rw [hy, List.getElem?_eq_getElem (by rw [← HLN.out]; omega)]; rfl)
      have hcy := HCE.out W1 HOS.out.old (i + 2) hj2
      rw [← hy] at hcy
      clear hy
      have hj3 : i + 3 < ln := by omega
      have hj3i : (i : Int) + 3 < (ln : Int) := by omega
      have hj3p : (0 : Int) ≤ (i : Int) + 3 := by omega
      have tn3 : ((i : Int) + 3).toNat = i + 3 := by omega
      obtain ⟨z, hz⟩ : ∃ x, x = L[i + 3]?.getD 0 := ⟨_, rfl⟩
      obtain ⟨z0, z1⟩ := HBY.out (i + 3) hj3
      rw [← hz] at z0 z1
      have Hz := Lib.hid (show L[i + 3]? = some z by rw [hz, List.getElem?_eq_getElem (by rw [← HLN.out]; omega)]; rfl)
      have hcz := HCE.out W1 HOS.out.old (i + 3) hj3
      rw [← hz] at hcz
      clear hz
      have HLN4 := Lib.hid hlf3
      clear hlf3 hcz
      have HRA : Hid (R = (signM L (i + 3)).andThen fun p m => .ok ⟨60, dec x y, p.1, p.2, [], []⟩ m) := Lib.hid (by rw [HR.out]; exact place_ok Hx.out Hy.out)
      have hz8 : z = 8 ∨ (z == 8) = false := by simp; omega
      have HZ8 := Lib.hid hz8
      clear hz8
      have w1 : IntKind.i64.wrap ((i : Int) + 1) = (i : Int) + 1 := IntWalk.i64_in _ (by omega)
      have w2 : IntKind.i64.wrap ((i : Int) + 2) = (i : Int) + 2 := IntWalk.i64_in _ (by omega)
      have w3 : IntKind.i64.wrap ((i : Int) + 3) = (i : Int) + 3 := IntWalk.i64_in _ (by omega)
      have w4 : IntKind.i64.wrap ((i : Int) + 4) = (i : Int) + 4 := IntWalk.i64_in _ (by omega)
      go_enter Tryd.func24, Tryd.ntmps24
      go_upto_region 4 with fail
      rw [HWz.out, HW1.out, HR0.out, HR1.out]
      clear hci
      go_upto_region 40 with fail
      have HOS2 := Lib.hid (HOS.out.set 1 (.int .i64 (dec x y)) (k' := _) (a' := dec x y) (b' := 0) (g' := false) (vp' := .slice none 0 0) rfl)
      obtain ⟨_, _, _, _, _, _, fr0, fr1, fr2, fr3, fr4, fr5⟩ := cells6 HOS.out.box
      have fr1d : W1.drew.frozen? ⟨r1, 1, none⟩ = false := fr1
      have hb1d : (W1.drew.cell? ⟨r1, 1, none⟩).isSome = true := by rw [show W1.drew.cell? ⟨r1, 1, none⟩ = some (.int .i64 0) from (cells6 HOS.out.box).2.1]; rfl
      have hb1 : W1.drew.cell? ⟨r1, 1, none⟩ = some (.int .i64 0) := (cells6 HOS.out.box).2.1
      have e1 : W1.drew.cell? ⟨gg, off + (i + 1), none⟩ = some (.int .u8 x) := hcx
      have e2 : W1.drew.cell? ⟨gg, off + (i + 2), none⟩ = some (.int .u8 y) := hcy
      have K := Lib.hid (show ∀ v, ((W1.setCell ⟨r1, 1, none⟩ v).drew.cell? ⟨gg, off + (i + 1), none⟩ = some (.int .u8 x) ∧ (W1.setCell ⟨r1, 1, none⟩ v).drew.cell? ⟨gg, off + (i + 2), none⟩ = some (.int .u8 y)) from fun v => ⟨(cell_block (Below.heap_setCell _ _ _ _ (fun e => hne3 e)) _).trans hcx, (cell_block (Below.heap_setCell _ _ _ _ (fun e => hne3 e)) _).trans hcy⟩)
      have HDC : Hid (Calls Tryd.prog 41 #[.int .u8 x, .int .u8 y] W1.drew fun e w' => e = .returned (.int .i64 (dec x y)) ∧ W1.drew = w') := Lib.hid (by have := Dig.rdecode_any x y W1.drew x0 (by omega) y0 (by omega); rw [decP_dec] at this; exact this)
      clear hcx hcy fr0 fr1 fr2 fr3 fr4 fr5
      first
      | (go_region_held3 (fun Z => Z.cell? ⟨gg, off + (i + 1), none⟩ = some (.int .u8 x) ∧ Z.cell? ⟨gg, off + (i + 2), none⟩ = some (.int .u8 y)) (first | assumption | exact ⟨e1, e2⟩ | exact K.out _) (first | (go_at_call 41; refine HDC.out.mono ?_; rintro e w' ⟨rfl, rfl⟩)))
      | fail
      all_goals
        have hos3 := HOS2.out.below (Below.refl _ _).drew
        obtain ⟨W2, hW2⟩ : ∃ W2, W2 = (W1.setCell ⟨r1, 1, none⟩ (.int .i64 (dec x y))).drew := ⟨_, rfl⟩
        rw [← hW2] at hos3 ⊢
        have HOS3 := Lib.hid hos3
        clear hos3 hW2 hb1 hb1d fr1d e1 e2
        obtain ⟨c0, c1, c2, c3, c4, c5, fr0, fr1, fr2, fr3, fr4, fr5⟩ := cells6 HOS3.out.box
        obtain ⟨_, _, _, _, _, _, f0, f1, f2, f3, f4, f5⟩ := cells6 HOS3.out.res
        have hcz := HCE.out W2 HOS3.out.old (i + 3) hj3
        rw [Hz.out] at hcz
        simp only [Option.getD_some] at hcz
        go_upto_region 42 with fail
        have hos := HOS3.out.set 2 (.int .u8 z) (k' := 60) (a' := dec x y) (b' := z) (g' := false) (vp' := .slice none 0 0) rfl
        obtain ⟨W4, hWn⟩ : ∃ W', W' = W2.setCell ⟨r1, 2, none⟩ (.int .u8 z) := ⟨_, rfl⟩
        rw [← hWn] at hos ⊢
        have HOS4 := Lib.hid hos
        clear hos hWn
        clear hcz c0 c1 c2 c3 c4 c5 fr0 fr1 fr2 fr3 fr4 fr5 f0 f1 f2 f3 f4 f5
        obtain ⟨c0, c1, c2, c3, c4, c5, fr0, fr1, fr2, fr3, fr4, fr5⟩ := cells6 HOS4.out.box
        obtain ⟨_, _, _, _, _, _, f0, f1, f2, f3, f4, f5⟩ := cells6 HOS4.out.res
        have hcz := HCE.out W4 HOS4.out.old (i + 3) hj3
        rw [Hz.out] at hcz
        simp only [Option.getD_some] at hcz
        rcases HZ8.out with hz8 | hz8
        · subst hz8
          by_cases h5 : lf < 5
          · have HRE : Hid (R = .bad .short) := Lib.hid (by rw [HRA.out]; exact sign_short Hz.out (show L.length ≤ i + 4 by have := HLF.out; have := HLN.out; omega))
            go_wp2_with fail
            refine bodyPost_ret (results_cell_two rfl _ _ r0 _ rfl (load_ord (put6_row HOS4.out.res ..) rfl)) rfl ?_
            obtain ⟨B, _⟩ := HOS4.out.fin _ _ _ _ _ _
            exact one_bad HRE.out B rfl
          · have hlf3 := HLF.out
            have hj4 : i + 4 < ln := by omega
            have hj4i : (i : Int) + 4 < (ln : Int) := by omega
            have hj4p : (0 : Int) ≤ (i : Int) + 4 := by omega
            have tn4 : ((i : Int) + 4).toNat = i + 4 := by omega
            obtain ⟨u, hu⟩ : ∃ x, x = L[i + 4]?.getD 0 := ⟨_, rfl⟩
            obtain ⟨u0, u1⟩ := HBY.out (i + 4) hj4
            rw [← hu] at u0 u1
            have Hu := Lib.hid (show L[i + 4]? = some u by rw [hu, List.getElem?_eq_getElem (by rw [← HLN.out]; omega)]; rfl)
            have hcu := HCE.out W1 HOS.out.old (i + 4) hj4
            rw [← hu] at hcu
            clear hu
            clear hlf3 hcu
            have hcu := HCE.out W4 HOS4.out.old (i + 4) hj4
            rw [Hu.out] at hcu
            simp only [Option.getD_some] at hcu
            by_cases hu64 : u < 64
            · have HRE : Hid (R = .bad .none) := Lib.hid (by rw [HRA.out]; exact sign_none Hz.out Hu.out hu64)
              go_wp2_with fail
              refine bodyPost_ret (results_cell_two rfl _ _ r0 _ rfl (load_ord (put6_row HOS4.out.res ..) rfl)) rfl ?_
              obtain ⟨B, _⟩ := HOS4.out.fin _ _ _ _ _ _
              exact one_bad HRE.out B rfl
            · have HRE : Hid (R = .ok ⟨60, dec x y, u, true, [], []⟩ (i + 5)) := Lib.hid (by rw [HRA.out]; exact sign_ge Hz.out Hu.out hu64)
              go_upto_region 48 with fail
              have hos := HOS4.out.set 3 (.bool true) (k' := 60) (a' := dec x y) (b' := 8) (g' := true) (vp' := .slice none 0 0) rfl
              obtain ⟨W5, hWn⟩ : ∃ W', W' = W4.setCell ⟨r1, 3, none⟩ (.bool true) := ⟨_, rfl⟩
              rw [← hWn] at hos ⊢
              have HOS5 := Lib.hid hos
              clear hos hWn
              clear hcu hcz c0 c1 c2 c3 c4 c5 fr0 fr1 fr2 fr3 fr4 fr5 f0 f1 f2 f3 f4 f5
              have hcu := HCE.out W5 HOS5.out.old (i + 4) hj4
              rw [Hu.out] at hcu
              simp only [Option.getD_some] at hcu
              have HOS6 := Lib.hid (HOS5.out.set 2 (.int .u8 u) (k' := 60) (a' := dec x y) (b' := u) (g' := true) (vp' := .slice none 0 0) rfl)
              obtain ⟨c0, c1, c2, c3, c4, c5, fr0, fr1, fr2, fr3, fr4, fr5⟩ := cells6 HOS5.out.box
              obtain ⟨_, _, _, _, _, _, f0, f1, f2, f3, f4, f5⟩ := cells6 HOS5.out.res
              go_wp2_with fail
              refine bodyPost_ret (results_cell_two rfl _ _ r0 _ rfl (load_ord (put6_row HOS6.out.res ..) rfl)) rfl ?_
              obtain ⟨B, _⟩ := HOS6.out.fin _ _ _ _ _ _
              exact one_ok HRE.out (by omega) ⟨_, _, rfl, ⟨rfl, .inl ⟨rfl, rfl⟩⟩, OwnBytes.nil _ _⟩ B rfl
        · have HNZ := Lib.hid hz8
          go_wp2_with fail
          have hpl := rplain_any z W4
          by_cases hp : plain z = true
          · rw [hp] at hpl
            have HRE : Hid (R = .ok ⟨60, dec x y, z, false, [], []⟩ (i + 4)) := Lib.hid (by rw [HRA.out]; exact sign_ok Hz.out (by simpa using HNZ.out) hp)
            refine hpl.mono ?_
            rintro e W5 ⟨rfl, b5⟩
            have HOS5 := Lib.hid (HOS4.out.below b5)
            clear hpl b5 hp hcz c0 c1 c2 c3 c4 c5 fr0 fr1 fr2 fr3 fr4 fr5 f0 f1 f2 f3 f4 f5
            obtain ⟨c0, c1, c2, c3, c4, c5, fr0, fr1, fr2, fr3, fr4, fr5⟩ := cells6 HOS5.out.box
            obtain ⟨_, _, _, _, _, _, f0, f1, f2, f3, f4, f5⟩ := cells6 HOS5.out.res
            go_wp2_with fail
            refine bodyPost_ret (results_cell_two rfl _ _ r0 _ rfl (load_ord (put6_row HOS5.out.res ..) rfl)) rfl ?_
            obtain ⟨B, _⟩ := HOS5.out.fin _ _ _ _ _ _
            exact one_ok HRE.out (by omega) ⟨_, _, rfl, ⟨rfl, .inl ⟨rfl, rfl⟩⟩, OwnBytes.nil _ _⟩ B rfl
          · have hp : plain z = false := by simpa using hp
            rw [hp] at hpl
            have HRE : Hid (R = .bad .none) := Lib.hid (by rw [HRA.out]; exact sign_bad Hz.out (by simpa using HNZ.out) hp)
            refine hpl.mono ?_
            rintro e W5 ⟨rfl, b5⟩
            have HOS5 := Lib.hid (HOS4.out.below b5)
            clear hpl b5 hp hcz c0 c1 c2 c3 c4 c5 fr0 fr1 fr2 fr3 fr4 fr5 f0 f1 f2 f3 f4 f5
            obtain ⟨c0, c1, c2, c3, c4, c5, fr0, fr1, fr2, fr3, fr4, fr5⟩ := cells6 HOS5.out.box
            obtain ⟨_, _, _, _, _, _, f0, f1, f2, f3, f4, f5⟩ := cells6 HOS5.out.res
            go_wp2_with fail
            refine bodyPost_ret (results_cell_two rfl _ _ r0 _ rfl (load_ord (put6_row HOS5.out.res ..) rfl)) rfl ?_
            obtain ⟨B, _⟩ := HOS5.out.fin _ _ _ _ _ _
            exact one_bad HRE.out B rfl
  · by_cases h2 : lf < 2
    · have HRE : Hid (R = .bad .short) := Lib.hid (by rw [HR.out]; exact nx1_short (show L.length ≤ i + 1 by have := HLF.out; have := HLN.out; omega))
      go_enter Tryd.func24, Tryd.ntmps24
      go_upto_region 4 with fail
      rw [HWz.out, HW1.out, HR0.out, HR1.out]
      clear hci
      obtain ⟨c0, c1, c2, c3, c4, c5, fr0, fr1, fr2, fr3, fr4, fr5⟩ := cells6 HOS.out.box
      obtain ⟨_, _, _, _, _, _, f0, f1, f2, f3, f4, f5⟩ := cells6 HOS.out.res
      go_wp2_with fail
      refine bodyPost_ret (results_cell_two rfl _ _ r0 _ rfl (load_ord (put6_row HOS.out.res ..) rfl)) rfl ?_
      obtain ⟨B, _⟩ := HOS.out.fin _ _ _ _ _ _
      exact one_bad HRE.out B rfl
    · have hlf3 := HLF.out
      have hj1 : i + 1 < ln := by omega
      have hj1i : (i : Int) + 1 < (ln : Int) := by omega
      have hj1p : (0 : Int) ≤ (i : Int) + 1 := by omega
      have tn1 : ((i : Int) + 1).toNat = i + 1 := by omega
      obtain ⟨x, hx⟩ : ∃ x, x = L[i + 1]?.getD 0 := ⟨_, rfl⟩
      obtain ⟨x0, x1⟩ := HBY.out (i + 1) hj1
      rw [← hx] at x0 x1
      have Hx := Lib.hid (show L[i + 1]? = some x by rw [hx, List.getElem?_eq_getElem (by rw [← HLN.out]; omega)]; rfl)
      have hcx := HCE.out W1 HOS.out.old (i + 1) hj1
      rw [← hx] at hcx
      clear hx
      clear hlf3
      have HRE : Hid (R = .ok ⟨29, 0, x % 64, false, [], []⟩ (i + 2)) := Lib.hid (by rw [HR.out]; exact sf_ok Hx.out)
      have HOS2 := Lib.hid (HOS.out.set 2 (.int .u8 (x % 64)) (k' := 29) (a' := 0) (b' := x % 64) (g' := false) (vp' := .slice none 0 0) rfl)
      go_enter Tryd.func24, Tryd.ntmps24
      go_upto_region 4 with fail
      rw [HWz.out, HW1.out, HR0.out, HR1.out]
      clear hci
      obtain ⟨c0, c1, c2, c3, c4, c5, fr0, fr1, fr2, fr3, fr4, fr5⟩ := cells6 HOS.out.box
      obtain ⟨_, _, _, _, _, _, f0, f1, f2, f3, f4, f5⟩ := cells6 HOS.out.res
      go_wp2_with fail
      refine bodyPost_ret (results_cell_two rfl _ _ r0 _ rfl (load_ord (put6_row HOS2.out.res ..) rfl)) rfl ?_
      obtain ⟨B, _⟩ := HOS2.out.fin _ _ _ _ _ _
      exact one_ok HRE.out (by omega) ⟨_, _, rfl, ⟨rfl, .inl ⟨rfl, rfl⟩⟩, OwnBytes.nil _ _⟩ B rfl
  · have hrp := rpairs_any (HROW.out W1 HOS.out.old) 40 (i + 1) 1 (by omega) (by have := HLN.out; omega) (by omega)
    obtain ⟨Rp, hRp⟩ : ∃ Rp, Rp = pairsM L 40 1 (i + 1) := ⟨_, rfl⟩
    rw [← hRp] at hrp
    have HRP : Hid (Calls Tryd.prog 42 #[.slice (some ⟨gg, off, none⟩) ln vc, .int .i64 ((i : Int) + 1), .int .u8 40, .int .i64 1] W1 (RPairK W1.heap.size W1 Rp)) := Lib.hid hrp
    have HRPE := Lib.hid hRp
    clear hrp hRp
    go_enter Tryd.func24, Tryd.ntmps24
    go_upto_region 4 with fail
    rw [HWz.out, HW1.out, HR0.out, HR1.out]
    clear hci
    go_wp2_with fail
    refine HRP.out.mono ?_
    rintro e W2 ⟨u, rfl, hps, hb2, hnil⟩
    have HOS2 := Lib.hid (HOS.out.below hb2)
    have HRZ : Hid (r1 < W1.heap.size) := Lib.hid (lt_of_block HOS.out.box)
    have HRZ2 : Hid (r0 < W1.heap.size) := Lib.hid (lt_of_block HOS.out.res)
    have HRZ3 : Hid (w.heap.size ≤ W1.heap.size) := Lib.hid HOS.out.old.size
    rcases Rp with ⟨ps, l⟩ | f
    · have HRE : Hid (R = .ok ⟨40, 0, 0, false, ps, []⟩ l) := Lib.hid (by rw [HR.out]; exact sa_ok HRPE.out.symm)
      have hpr := hps ps l rfl
      obtain ⟨pa, pc, rfl⟩ := hpr.slice
      obtain ⟨pn, hpn⟩ : ∃ pn, pn = ps.length := ⟨_, rfl⟩
      rw [← hpn] at hpr
      have HPR := Lib.hid hpr
      rw [show ps.length = pn from hpn.symm]
      have HOS4 := Lib.hid (HOS2.out.set 4 (.slice pa pn pc) (k' := 40) (a' := 0) (b' := 0) (g' := false) (vp' := .slice pa pn pc) rfl)
      clear hps hb2 hnil hpr hpn
      have HM : Hid ((3 : Int) = (l : Int) - i) := Lib.hid (by have := pairsM_next 1 HRPE.out.symm; omega)
      obtain ⟨c0, c1, c2, c3, c4, c5, fr0, fr1, fr2, fr3, fr4, fr5⟩ := cells6 HOS2.out.box
      obtain ⟨_, _, _, _, _, _, f0, f1, f2, f3, f4, f5⟩ := cells6 HOS2.out.res
      go_wp2_with fail
      refine bodyPost_ret (results_cell_two rfl _ _ r0 _ rfl (load_ord (put6_row HOS4.out.res ..) rfl)) rfl ?_
      obtain ⟨B, _⟩ := HOS4.out.fin _ _ _ _ _ _
      have hprow : PairRow w.heap.size (put6 (W2.setCell ⟨r1, 4, none⟩ (.slice pa pn pc)) r0 (.int .u8 40) (.int .i64 0) (.int .u8 0) (.bool false) (.slice pa pn pc) (.slice none 0 0)) (.slice pa pn pc) ps := ((HPR.out.keep fun g hg hl => (Below.heap_setCell _ _ _ _ (fun e => by have := HRZ.out; have : g = r1 := e; omega))).put HRZ2.out _ _ _ _ _ _).base HRZ3.out
      exact one_ok HRE.out HM.out ⟨_, _, rfl, hprow, OwnBytes.nil _ _⟩ B rfl
    · have HRE : Hid (R = .bad f) := Lib.hid (by rw [HR.out]; exact sa_bad HRPE.out.symm)
      obtain rfl := hnil (by cases f <;> decide)
      have HOS4 := Lib.hid (HOS2.out.set 4 (.slice none 0 0) (k' := 40) (a' := 0) (b' := 0) (g' := false) (vp' := .slice none 0 0) rfl)
      clear hps hb2 hnil
      obtain ⟨c0, c1, c2, c3, c4, c5, fr0, fr1, fr2, fr3, fr4, fr5⟩ := cells6 HOS2.out.box
      obtain ⟨_, _, _, _, _, _, f0, f1, f2, f3, f4, f5⟩ := cells6 HOS2.out.res
      go_wp2_with fail
      refine bodyPost_ret (results_cell_two rfl _ _ r0 _ rfl (load_ord (put6_row HOS4.out.res ..) rfl)) rfl ?_
      obtain ⟨B, _⟩ := HOS4.out.fin _ _ _ _ _ _
      exact one_bad HRE.out B rfl
  · by_cases h2 : lf < 2
    · have HRE : Hid (R = .bad .short) := Lib.hid (by rw [HR.out]; exact sfe_short (by omega) (show L.length ≤ i + 1 by have := HLF.out; have := HLN.out; omega))
      go_enter Tryd.func24, Tryd.ntmps24
      go_upto_region 4 with fail
      rw [HWz.out, HW1.out, HR0.out, HR1.out]
      clear hci
      obtain ⟨c0, c1, c2, c3, c4, c5, fr0, fr1, fr2, fr3, fr4, fr5⟩ := cells6 HOS.out.box
      obtain ⟨_, _, _, _, _, _, f0, f1, f2, f3, f4, f5⟩ := cells6 HOS.out.res
      go_wp2_with fail
      refine bodyPost_ret (results_cell_two rfl _ _ r0 _ rfl (load_ord (put6_row HOS.out.res ..) rfl)) rfl ?_
      obtain ⟨B, _⟩ := HOS.out.fin _ _ _ _ _ _
      exact one_bad HRE.out B rfl
    · have hlf3 := HLF.out
      have hj1 : i + 1 < ln := by omega
      have hj1i : (i : Int) + 1 < (ln : Int) := by omega
      have hj1p : (0 : Int) ≤ (i : Int) + 1 := by omega
      have tn1 : ((i : Int) + 1).toNat = i + 1 := by omega
      obtain ⟨x, hx⟩ : ∃ x, x = L[i + 1]?.getD 0 := ⟨_, rfl⟩
      obtain ⟨x0, x1⟩ := HBY.out (i + 1) hj1
      rw [← hx] at x0 x1
      have Hx := Lib.hid (show L[i + 1]? = some x by rw [hx, List.getElem?_eq_getElem (by rw [← HLN.out]; omega)]; rfl)
      have hcx := HCE.out W1 HOS.out.old (i + 1) hj1
      rw [← hx] at hcx
      clear hx
      clear hlf3
      have hrp := rpairs_any (HROW.out W1 HOS.out.old) 41 (i + 2) x.toNat (by omega) (by have := HLN.out; omega) (by omega)
      rw [Int.toNat_of_nonneg x0] at hrp
      obtain ⟨Rp, hRp⟩ : ∃ Rp, Rp = pairsM L 41 x.toNat (i + 2) := ⟨_, rfl⟩
      rw [← hRp] at hrp
      have HRP : Hid (Calls Tryd.prog 42 #[.slice (some ⟨gg, off, none⟩) ln vc, .int .i64 ((i : Int) + 2), .int .u8 41, .int .i64 x] W1 (RPairK W1.heap.size W1 Rp)) := Lib.hid hrp
      have HRPE := Lib.hid hRp
      have w7 : IntKind.i64.wrap x = x := IntWalk.i64_in _ (by omega)
      have w5 : IntKind.i64.wrap (2 * x) = 2 * x := IntWalk.i64_in _ (by omega)
      have w6 : IntKind.i64.wrap (2 + 2 * x) = 2 + 2 * x := IntWalk.i64_in _ (by omega)
      clear hrp hRp
      have w1 : IntKind.i64.wrap ((i : Int) + 1) = (i : Int) + 1 := IntWalk.i64_in _ (by omega)
      have w2 : IntKind.i64.wrap ((i : Int) + 2) = (i : Int) + 2 := IntWalk.i64_in _ (by omega)
      have w3 : IntKind.i64.wrap ((i : Int) + 3) = (i : Int) + 3 := IntWalk.i64_in _ (by omega)
      have w4 : IntKind.i64.wrap ((i : Int) + 4) = (i : Int) + 4 := IntWalk.i64_in _ (by omega)
      go_enter Tryd.func24, Tryd.ntmps24
      go_upto_region 4 with fail
      rw [HWz.out, HW1.out, HR0.out, HR1.out]
      clear hci
      go_wp2_with fail
      refine HRP.out.mono ?_
      rintro e W2 ⟨u, rfl, hps, hb2, hnil⟩
      have HOS2 := Lib.hid (HOS.out.below hb2)
      have HRZ : Hid (r1 < W1.heap.size) := Lib.hid (lt_of_block HOS.out.box)
      have HRZ2 : Hid (r0 < W1.heap.size) := Lib.hid (lt_of_block HOS.out.res)
      have HRZ3 : Hid (w.heap.size ≤ W1.heap.size) := Lib.hid HOS.out.old.size
      rcases Rp with ⟨ps, l⟩ | f
      · have HRE : Hid (R = .ok ⟨41, 0, 0, false, ps, []⟩ l) := Lib.hid (by rw [HR.out]; exact sfe_ok (by omega) Hx.out HRPE.out.symm)
        have hpr := hps ps l rfl
        obtain ⟨pa, pc, rfl⟩ := hpr.slice
        obtain ⟨pn, hpn⟩ : ∃ pn, pn = ps.length := ⟨_, rfl⟩
        rw [← hpn] at hpr
        have HPR := Lib.hid hpr
        rw [show ps.length = pn from hpn.symm]
        have HOS4 := Lib.hid (HOS2.out.set 4 (.slice pa pn pc) (k' := 41) (a' := 0) (b' := 0) (g' := false) (vp' := .slice pa pn pc) rfl)
        clear hps hb2 hnil hpr hpn
        have HM : Hid (2 + 2 * x = (l : Int) - i) := Lib.hid (by have := pairsM_next _ HRPE.out.symm; omega)
        obtain ⟨c0, c1, c2, c3, c4, c5, fr0, fr1, fr2, fr3, fr4, fr5⟩ := cells6 HOS2.out.box
        obtain ⟨_, _, _, _, _, _, f0, f1, f2, f3, f4, f5⟩ := cells6 HOS2.out.res
        go_upto_region 36 with fail
        have hpr3 : PairRow W1.heap.size (W2.setCell ⟨r1, 4, none⟩ (.slice pa pn pc)) (.slice pa pn pc) ps := HPR.out.keep fun g hg hl => (Below.heap_setCell _ _ _ _ (fun e => by have := HRZ.out; have : g = r1 := e; omega))
        have hos := HOS4.out
        obtain ⟨W3, hWn⟩ : ∃ W', W' = W2.setCell ⟨r1, 4, none⟩ (.slice pa pn pc) := ⟨_, rfl⟩
        rw [← hWn] at hos hpr3 ⊢
        have HPR3a := Lib.hid hpr3
        clear hpr3
        have HOS5 := Lib.hid hos
        clear hos hWn
        clear c0 c1 c2 c3 c4 c5 fr0 fr1 fr2 fr3 fr4 fr5 f0 f1 f2 f3 f4 f5 hcx
        have hxd : W3.drew.cell? ⟨gg, off + (i + 1), none⟩ = some (.int .u8 x) := (HCE.out W3 HOS5.out.old (i + 1) hj1).trans (by rw [Hx.out]; rfl)
        obtain ⟨b0, b1, b2, b3, b4, b5, _⟩ := cells6 (W := W3.drew) HOS5.out.box
        obtain ⟨a0, a1, a2, a3, a4, a5, f0, f1, f2, f3, f4, f5⟩ := cells6 (W := W3.drew) HOS5.out.res
        obtain ⟨a0', a1', a2', a3', a4', a5', f0', f1', f2', f3', f4', f5'⟩ := cells6 (W := W3) HOS5.out.res
        have K := Lib.hid (keep7 (W := W3) (r0 := r0) hne4 hne2 hxd b0 b1 b2 b3 b4 b5)
        first
        | (go_region_held3 (fun Z => Z.cell? ⟨gg, off + (i + 1), none⟩ = some (.int .u8 x) ∧ Z.cell? ⟨r1, 0, none⟩ = some (.int .u8 41) ∧ Z.cell? ⟨r1, 1, none⟩ = some (.int .i64 0) ∧ Z.cell? ⟨r1, 2, none⟩ = some (.int .u8 0) ∧ Z.cell? ⟨r1, 3, none⟩ = some (.bool false) ∧ Z.cell? ⟨r1, 4, none⟩ = some (.slice pa pn pc) ∧ Z.cell? ⟨r1, 5, none⟩ = some (.slice none 0 0)) (with_reducible (first | assumption | exact ⟨hxd, b0, b1, b2, b3, b4, b5⟩ | exact K.out _ _ _ _ _ _)) (fail))
        | fail
        all_goals
          go_wp2_with fail
          refine bodyPost_ret (results_cell_two rfl _ _ r0 _ rfl (chain_load HOS5.out.res _ _ _ _ _ _)) rfl ?_
          have B := HOS5.out.finD (.int .u8 41) (.int .i64 0) (.int .u8 0) (.bool false) (.slice pa pn pc) (.slice none 0 0)
          have HPR3 := Lib.hid (show PairRow W1.heap.size W3 (.slice pa pn pc) ps from HPR3a.out)
          have hprow := (HPR3.out.putD HRZ2.out (.int .u8 41) (.int .i64 0) (.int .u8 0) (.bool false) (.slice pa pn pc) (.slice none 0 0)).base HRZ3.out
          exact one_ok HRE.out HM.out ⟨_, _, rfl, hprow, OwnBytes.nil _ _⟩ B rfl
      · have HRE : Hid (R = .bad f) := Lib.hid (by rw [HR.out]; exact sfe_bad (by omega) Hx.out HRPE.out.symm)
        obtain rfl := hnil (by cases f <;> decide)
        have HOS4 := Lib.hid (HOS2.out.set 4 (.slice none 0 0) (k' := 41) (a' := 0) (b' := 0) (g' := false) (vp' := .slice none 0 0) rfl)
        clear hps hb2 hnil
        obtain ⟨c0, c1, c2, c3, c4, c5, fr0, fr1, fr2, fr3, fr4, fr5⟩ := cells6 HOS2.out.box
        obtain ⟨_, _, _, _, _, _, f0, f1, f2, f3, f4, f5⟩ := cells6 HOS2.out.res
        go_upto_region 36 with fail
        have hos := HOS4.out
        obtain ⟨W3, hWn⟩ : ∃ W', W' = W2.setCell ⟨r1, 4, none⟩ (.slice none 0 0) := ⟨_, rfl⟩
        rw [← hWn] at hos ⊢
        have HOS5 := Lib.hid hos
        clear hos hWn
        clear c0 c1 c2 c3 c4 c5 fr0 fr1 fr2 fr3 fr4 fr5 f0 f1 f2 f3 f4 f5 hcx
        have hxd : W3.drew.cell? ⟨gg, off + (i + 1), none⟩ = some (.int .u8 x) := (HCE.out W3 HOS5.out.old (i + 1) hj1).trans (by rw [Hx.out]; rfl)
        obtain ⟨b0, b1, b2, b3, b4, b5, _⟩ := cells6 (W := W3.drew) HOS5.out.box
        obtain ⟨a0, a1, a2, a3, a4, a5, f0, f1, f2, f3, f4, f5⟩ := cells6 (W := W3.drew) HOS5.out.res
        obtain ⟨a0', a1', a2', a3', a4', a5', f0', f1', f2', f3', f4', f5'⟩ := cells6 (W := W3) HOS5.out.res
        have K := Lib.hid (keep7 (W := W3) (r0 := r0) hne4 hne2 hxd b0 b1 b2 b3 b4 b5)
        first
        | (go_region_held3 (fun Z => Z.cell? ⟨gg, off + (i + 1), none⟩ = some (.int .u8 x) ∧ Z.cell? ⟨r1, 0, none⟩ = some (.int .u8 41) ∧ Z.cell? ⟨r1, 1, none⟩ = some (.int .i64 0) ∧ Z.cell? ⟨r1, 2, none⟩ = some (.int .u8 0) ∧ Z.cell? ⟨r1, 3, none⟩ = some (.bool false) ∧ Z.cell? ⟨r1, 4, none⟩ = some (.slice none 0 0) ∧ Z.cell? ⟨r1, 5, none⟩ = some (.slice none 0 0)) (with_reducible (first | assumption | exact ⟨hxd, b0, b1, b2, b3, b4, b5⟩ | exact K.out _ _ _ _ _ _)) (fail))
        | fail
        all_goals
          go_wp2_with fail
          refine bodyPost_ret (results_cell_two rfl _ _ r0 _ rfl (chain_load HOS5.out.res _ _ _ _ _ _)) rfl ?_
          have B := HOS5.out.finD (.int .u8 41) (.int .i64 0) (.int .u8 0) (.bool false) (.slice none 0 0) (.slice none 0 0)
          exact one_bad HRE.out B rfl
  · by_cases h2 : lf < 2
    · have HRE : Hid (R = .bad .short) := Lib.hid (by rw [HR.out]; exact sfe_short (by omega) (show L.length ≤ i + 1 by have := HLF.out; have := HLN.out; omega))
      go_enter Tryd.func24, Tryd.ntmps24
      go_upto_region 4 with fail
      rw [HWz.out, HW1.out, HR0.out, HR1.out]
      clear hci
      obtain ⟨c0, c1, c2, c3, c4, c5, fr0, fr1, fr2, fr3, fr4, fr5⟩ := cells6 HOS.out.box
      obtain ⟨_, _, _, _, _, _, f0, f1, f2, f3, f4, f5⟩ := cells6 HOS.out.res
      go_wp2_with fail
      refine bodyPost_ret (results_cell_two rfl _ _ r0 _ rfl (load_ord (put6_row HOS.out.res ..) rfl)) rfl ?_
      obtain ⟨B, _⟩ := HOS.out.fin _ _ _ _ _ _
      exact one_bad HRE.out B rfl
    · have hlf3 := HLF.out
      have hj1 : i + 1 < ln := by omega
      have hj1i : (i : Int) + 1 < (ln : Int) := by omega
      have hj1p : (0 : Int) ≤ (i : Int) + 1 := by omega
      have tn1 : ((i : Int) + 1).toNat = i + 1 := by omega
      obtain ⟨x, hx⟩ : ∃ x, x = L[i + 1]?.getD 0 := ⟨_, rfl⟩
      obtain ⟨x0, x1⟩ := HBY.out (i + 1) hj1
      rw [← hx] at x0 x1
      have Hx := Lib.hid (show L[i + 1]? = some x by rw [hx, List.getElem?_eq_getElem (by rw [← HLN.out]; omega)]; rfl)
      have hcx := HCE.out W1 HOS.out.old (i + 1) hj1
      rw [← hx] at hcx
      clear hx
      clear hlf3
      have hrp := rpairs_any (HROW.out W1 HOS.out.old) 44 (i + 2) x.toNat (by omega) (by have := HLN.out; omega) (by omega)
      rw [Int.toNat_of_nonneg x0] at hrp
      obtain ⟨Rp, hRp⟩ : ∃ Rp, Rp = pairsM L 44 x.toNat (i + 2) := ⟨_, rfl⟩
      rw [← hRp] at hrp
      have HRP : Hid (Calls Tryd.prog 42 #[.slice (some ⟨gg, off, none⟩) ln vc, .int .i64 ((i : Int) + 2), .int .u8 44, .int .i64 x] W1 (RPairK W1.heap.size W1 Rp)) := Lib.hid hrp
      have HRPE := Lib.hid hRp
      have w7 : IntKind.i64.wrap x = x := IntWalk.i64_in _ (by omega)
      have w5 : IntKind.i64.wrap (2 * x) = 2 * x := IntWalk.i64_in _ (by omega)
      have w6 : IntKind.i64.wrap (2 + 2 * x) = 2 + 2 * x := IntWalk.i64_in _ (by omega)
      clear hrp hRp
      have w1 : IntKind.i64.wrap ((i : Int) + 1) = (i : Int) + 1 := IntWalk.i64_in _ (by omega)
      have w2 : IntKind.i64.wrap ((i : Int) + 2) = (i : Int) + 2 := IntWalk.i64_in _ (by omega)
      have w3 : IntKind.i64.wrap ((i : Int) + 3) = (i : Int) + 3 := IntWalk.i64_in _ (by omega)
      have w4 : IntKind.i64.wrap ((i : Int) + 4) = (i : Int) + 4 := IntWalk.i64_in _ (by omega)
      go_enter Tryd.func24, Tryd.ntmps24
      go_upto_region 4 with fail
      rw [HWz.out, HW1.out, HR0.out, HR1.out]
      clear hci
      go_wp2_with fail
      refine HRP.out.mono ?_
      rintro e W2 ⟨u, rfl, hps, hb2, hnil⟩
      have HOS2 := Lib.hid (HOS.out.below hb2)
      have HRZ : Hid (r1 < W1.heap.size) := Lib.hid (lt_of_block HOS.out.box)
      have HRZ2 : Hid (r0 < W1.heap.size) := Lib.hid (lt_of_block HOS.out.res)
      have HRZ3 : Hid (w.heap.size ≤ W1.heap.size) := Lib.hid HOS.out.old.size
      rcases Rp with ⟨ps, l⟩ | f
      · have HRE : Hid (R = .ok ⟨44, 0, 0, false, ps, []⟩ l) := Lib.hid (by rw [HR.out]; exact sfe_ok (by omega) Hx.out HRPE.out.symm)
        have hpr := hps ps l rfl
        obtain ⟨pa, pc, rfl⟩ := hpr.slice
        obtain ⟨pn, hpn⟩ : ∃ pn, pn = ps.length := ⟨_, rfl⟩
        rw [← hpn] at hpr
        have HPR := Lib.hid hpr
        rw [show ps.length = pn from hpn.symm]
        have HOS4 := Lib.hid (HOS2.out.set 4 (.slice pa pn pc) (k' := 44) (a' := 0) (b' := 0) (g' := false) (vp' := .slice pa pn pc) rfl)
        clear hps hb2 hnil hpr hpn
        have HM : Hid (2 + 2 * x = (l : Int) - i) := Lib.hid (by have := pairsM_next _ HRPE.out.symm; omega)
        obtain ⟨c0, c1, c2, c3, c4, c5, fr0, fr1, fr2, fr3, fr4, fr5⟩ := cells6 HOS2.out.box
        obtain ⟨_, _, _, _, _, _, f0, f1, f2, f3, f4, f5⟩ := cells6 HOS2.out.res
        go_upto_region 36 with fail
        have hpr3 : PairRow W1.heap.size (W2.setCell ⟨r1, 4, none⟩ (.slice pa pn pc)) (.slice pa pn pc) ps := HPR.out.keep fun g hg hl => (Below.heap_setCell _ _ _ _ (fun e => by have := HRZ.out; have : g = r1 := e; omega))
        have hos := HOS4.out
        obtain ⟨W3, hWn⟩ : ∃ W', W' = W2.setCell ⟨r1, 4, none⟩ (.slice pa pn pc) := ⟨_, rfl⟩
        rw [← hWn] at hos hpr3 ⊢
        have HPR3a := Lib.hid hpr3
        clear hpr3
        have HOS5 := Lib.hid hos
        clear hos hWn
        clear c0 c1 c2 c3 c4 c5 fr0 fr1 fr2 fr3 fr4 fr5 f0 f1 f2 f3 f4 f5 hcx
        have hxd : W3.drew.cell? ⟨gg, off + (i + 1), none⟩ = some (.int .u8 x) := (HCE.out W3 HOS5.out.old (i + 1) hj1).trans (by rw [Hx.out]; rfl)
        obtain ⟨b0, b1, b2, b3, b4, b5, _⟩ := cells6 (W := W3.drew) HOS5.out.box
        obtain ⟨a0, a1, a2, a3, a4, a5, f0, f1, f2, f3, f4, f5⟩ := cells6 (W := W3.drew) HOS5.out.res
        obtain ⟨a0', a1', a2', a3', a4', a5', f0', f1', f2', f3', f4', f5'⟩ := cells6 (W := W3) HOS5.out.res
        have K := Lib.hid (keep7 (W := W3) (r0 := r0) hne4 hne2 hxd b0 b1 b2 b3 b4 b5)
        first
        | (go_region_held3 (fun Z => Z.cell? ⟨gg, off + (i + 1), none⟩ = some (.int .u8 x) ∧ Z.cell? ⟨r1, 0, none⟩ = some (.int .u8 44) ∧ Z.cell? ⟨r1, 1, none⟩ = some (.int .i64 0) ∧ Z.cell? ⟨r1, 2, none⟩ = some (.int .u8 0) ∧ Z.cell? ⟨r1, 3, none⟩ = some (.bool false) ∧ Z.cell? ⟨r1, 4, none⟩ = some (.slice pa pn pc) ∧ Z.cell? ⟨r1, 5, none⟩ = some (.slice none 0 0)) (with_reducible (first | assumption | exact ⟨hxd, b0, b1, b2, b3, b4, b5⟩ | exact K.out _ _ _ _ _ _)) (fail))
        | fail
        all_goals
          go_wp2_with fail
          refine bodyPost_ret (results_cell_two rfl _ _ r0 _ rfl (chain_load HOS5.out.res _ _ _ _ _ _)) rfl ?_
          have B := HOS5.out.finD (.int .u8 44) (.int .i64 0) (.int .u8 0) (.bool false) (.slice pa pn pc) (.slice none 0 0)
          have HPR3 := Lib.hid (show PairRow W1.heap.size W3 (.slice pa pn pc) ps from HPR3a.out)
          have hprow := (HPR3.out.putD HRZ2.out (.int .u8 44) (.int .i64 0) (.int .u8 0) (.bool false) (.slice pa pn pc) (.slice none 0 0)).base HRZ3.out
          exact one_ok HRE.out HM.out ⟨_, _, rfl, hprow, OwnBytes.nil _ _⟩ B rfl
      · have HRE : Hid (R = .bad f) := Lib.hid (by rw [HR.out]; exact sfe_bad (by omega) Hx.out HRPE.out.symm)
        obtain rfl := hnil (by cases f <;> decide)
        have HOS4 := Lib.hid (HOS2.out.set 4 (.slice none 0 0) (k' := 44) (a' := 0) (b' := 0) (g' := false) (vp' := .slice none 0 0) rfl)
        clear hps hb2 hnil
        obtain ⟨c0, c1, c2, c3, c4, c5, fr0, fr1, fr2, fr3, fr4, fr5⟩ := cells6 HOS2.out.box
        obtain ⟨_, _, _, _, _, _, f0, f1, f2, f3, f4, f5⟩ := cells6 HOS2.out.res
        go_upto_region 36 with fail
        have hos := HOS4.out
        obtain ⟨W3, hWn⟩ : ∃ W', W' = W2.setCell ⟨r1, 4, none⟩ (.slice none 0 0) := ⟨_, rfl⟩
        rw [← hWn] at hos ⊢
        have HOS5 := Lib.hid hos
        clear hos hWn
        clear c0 c1 c2 c3 c4 c5 fr0 fr1 fr2 fr3 fr4 fr5 f0 f1 f2 f3 f4 f5 hcx
        have hxd : W3.drew.cell? ⟨gg, off + (i + 1), none⟩ = some (.int .u8 x) := (HCE.out W3 HOS5.out.old (i + 1) hj1).trans (by rw [Hx.out]; rfl)
        obtain ⟨b0, b1, b2, b3, b4, b5, _⟩ := cells6 (W := W3.drew) HOS5.out.box
        obtain ⟨a0, a1, a2, a3, a4, a5, f0, f1, f2, f3, f4, f5⟩ := cells6 (W := W3.drew) HOS5.out.res
        obtain ⟨a0', a1', a2', a3', a4', a5', f0', f1', f2', f3', f4', f5'⟩ := cells6 (W := W3) HOS5.out.res
        have K := Lib.hid (keep7 (W := W3) (r0 := r0) hne4 hne2 hxd b0 b1 b2 b3 b4 b5)
        first
        | (go_region_held3 (fun Z => Z.cell? ⟨gg, off + (i + 1), none⟩ = some (.int .u8 x) ∧ Z.cell? ⟨r1, 0, none⟩ = some (.int .u8 44) ∧ Z.cell? ⟨r1, 1, none⟩ = some (.int .i64 0) ∧ Z.cell? ⟨r1, 2, none⟩ = some (.int .u8 0) ∧ Z.cell? ⟨r1, 3, none⟩ = some (.bool false) ∧ Z.cell? ⟨r1, 4, none⟩ = some (.slice none 0 0) ∧ Z.cell? ⟨r1, 5, none⟩ = some (.slice none 0 0)) (with_reducible (first | assumption | exact ⟨hxd, b0, b1, b2, b3, b4, b5⟩ | exact K.out _ _ _ _ _ _)) (fail))
        | fail
        all_goals
          go_wp2_with fail
          refine bodyPost_ret (results_cell_two rfl _ _ r0 _ rfl (chain_load HOS5.out.res _ _ _ _ _ _)) rfl ?_
          have B := HOS5.out.finD (.int .u8 44) (.int .i64 0) (.int .u8 0) (.bool false) (.slice none 0 0) (.slice none 0 0)
          exact one_bad HRE.out B rfl
  · have HRE : Hid (R = .bad .none) := Lib.hid (by
      simp at k1 k2 k3 k4 k5 k6 k7 k8 k9 k10
      rw [HR.out]
      simp [ordK, *])
    go_enter Tryd.func24, Tryd.ntmps24
    go_upto_region 4 with fail
    rw [HWz.out, HW1.out, HR0.out, HR1.out]
    clear hci
    obtain ⟨c0, c1, c2, c3, c4, c5, fr0, fr1, fr2, fr3, fr4, fr5⟩ := cells6 HOS.out.box
    obtain ⟨_, _, _, _, _, _, f0, f1, f2, f3, f4, f5⟩ := cells6 HOS.out.res
    go_wp2_with fail
    refine bodyPost_ret (results_cell_two rfl _ _ r0 _ rfl (load_ord (put6_row HOS.out.res ..) rfl)) rfl ?_
    obtain ⟨B, _⟩ := HOS.out.fin _ _ _ _ _ _
    exact one_bad HRE.out B rfl
end Go.Proofs.YtjeknociobbhpaaDoor.Ord
