/-
  The contract of Parse.
-/
import Derived.Test.YtkolhjglehnigaaHeadB
import Derived.BigRegion
namespace Go.Proofs.Ytkolhjglehnigaa.Head
open Go.RowKit Base
set_option linter.unusedVariables false

theorem results_row_tmp2 {fn : Func} {p u x : Tmp} {ty : TypeId} (h : fn.results = #[.cell p ty, .tmp u, .tmp x]) (tmps : Array Value) (w : World) (g : Nat) (cs : Array Value)
    (hp : tmps.getD p undef = .pointer (some ⟨g, 0, none⟩)) (hrun : (loadVar ty ⟨g, 0, none⟩).run Try.prog w = .ok (.agg cs) w) :
    (results fn tmps).run Try.prog w = .ok (.tuple #[.agg cs, tmps.getD u undef, tmps.getD x undef]) w := by
  have hp' : tmps[p]?.getD undef = .pointer (some ⟨g, 0, none⟩) := by simpa using hp
  simp only [results, h]
  simp [Result.andThen, hp', asAddr, hrun]
theorem load_hd {g : Nat} {W : World} {cs : Array Value} (hr : W.heap[g]? = some (.cells cs 116 (0, 0))) (hs : cs.size = 4) : (loadVar 116 ⟨g, 0, none⟩).run Try.prog W = .ok (.agg cs) W :=
  run_loadVar_row _ g 116 116 cs (0, 0) _ hr Try.underlying116 rfl (by rw [hs]; exact size_hd)
def hd0 : Hd := ⟨0, 0, 0, 0⟩
theorem parse_short (v : Value) (L : List Int) (w : World) (hr : RowOf .u8 w v L) (hl : L.length < 5) :
    Calls Try.prog 76 #[v] w fun e w' => e = .returned (.tuple #[.agg (hdA hd0), .slice none 0 0, .int .i64 20]) ∧ Below w.heap.size w w' := by
  obtain ⟨a, cap, rfl, hrow⟩ := hr
  obtain ⟨n, hn⟩ : ∃ n, n = L.length := ⟨_, rfl⟩
  rw [← hn] at hl ⊢
  have hz := (zero_of_info info_hd).1
  have t : (n : Int) < 5 := by omega
  have HRUN := Lib.hid (load_hd (heap_alloc_new w (.cells (hdA hd0) 116)) rfl)
  have HB := Lib.hid (below_alloc w (.cells (hdA hd0) 116))
  unfold hdA hd0 at HRUN HB ⊢
  clear hrow hn hl
  go_enter Try.func76, Try.ntmps76
  go_wp2_with fail
  refine bodyPost_ret (results_row_tmp2 rfl _ _ w.heap.size _ rfl HRUN.out) rfl ?_
  exact ⟨rfl, HB.out⟩
set_option maxRecDepth 100000 in
theorem parse_form (v : Value) (L : List Int) (w : World) (hr : RowOf .u8 w v L) (hl : 5 ≤ L.length) (hx : (8 : Int) < L[0]?.getD 0) (hx1 : L[0]?.getD 0 ≤ 255) :
    Calls Try.prog 76 #[v] w fun e w' => e = .returned (.tuple #[.agg (hdA hd0), .slice none 0 0, .int .i64 21]) ∧ Below w.heap.size w w' := by
  obtain ⟨a, cap, rfl, hrow⟩ := hr
  obtain ⟨b, off, ha, hc⟩ := hrow (by intro e; rw [e] at hl; simp at hl)
  subst ha
  have c0 := hc 0 (by omega)
  obtain ⟨x, hx'⟩ : ∃ x, x = L[0]?.getD 0 := ⟨_, rfl⟩
  rw [← hx'] at c0 hx hx1
  have HB := Lib.hid (below_alloc w (.cells (hdA hd0) 116))
  have c0 := (HB.out.cell (World.block_lt_of_cell? w _ c0)).trans c0
  simp only [Nat.add_zero] at c0
  obtain ⟨n, hn⟩ : ∃ n, n = L.length := ⟨_, rfl⟩
  rw [← hn] at hl ⊢
  have hz := (zero_of_info info_hd).1
  have t : (5 : Int) ≤ (n : Int) := by omega
  have i0 : (0 : Int) < (n : Int) := by omega
  have HRUN := Lib.hid (load_hd (heap_alloc_new w (.cells (hdA hd0) 116)) rfl)
  unfold hdA hd0 at HRUN HB c0 ⊢
  clear hrow hn hl hc hx'
  go_enter Try.func76, Try.ntmps76
  go_wp2_with fail
  refine bodyPost_ret (results_row_tmp2 rfl _ _ w.heap.size _ rfl HRUN.out) rfl ?_
  exact ⟨rfl, HB.out⟩
theorem or_u16 (x y : Int) (x0 : 0 ≤ x) (x1 : x ≤ 255) (y0 : 0 ≤ y) (y1 : y ≤ 255) : bits .or .u16 (x * 256) y = x * 256 + y := by
  obtain ⟨a, rfl⟩ := Int.eq_ofNat_of_zero_le x0
  obtain ⟨b, rfl⟩ := Int.eq_ofNat_of_zero_le y0
  have hb : b < 2 ^ 8 := by omega
  have key : (BitVec.ofInt 16 ((a : Int) * 256) ||| BitVec.ofInt 16 (b : Int)).toNat = a * 256 + b := by
    rw [BitVec.toNat_or, BitVec.toNat_ofInt, BitVec.toNat_ofInt]
    have e1 : (((a : Int) * 256) % ((2 ^ 16 : Nat) : Int)).toNat = a <<< 8 := by rw [Nat.shiftLeft_eq]; omega
    have e2 : ((b : Int) % ((2 ^ 16 : Nat) : Int)).toNat = b := by omega
    rw [e1, e2, ← Nat.shiftLeft_add_eq_or_of_lt hb, Nat.shiftLeft_eq]
  show IntKind.u16.wrap (((BitVec.ofInt 16 ((a : Int) * 256) ||| BitVec.ofInt 16 (b : Int)).toNat : Nat) : Int) = _
  rw [key]
  unfold IntKind.wrap
  simp [IntKind.bits, IntKind.signed]
  omega
theorem RowOf.dropTo {w : World} {b off n c : Nat} {L : List Int} (h : RowOf .u8 w (.slice (some ⟨b, off, none⟩) n c) L) (m : Nat) (hm : m ≤ n) (c' : Nat) : RowOf .u8 w (.slice (some ⟨b, off + m, none⟩) (n - m) c') (L.drop m) := by
  obtain ⟨a', c0, e', hr⟩ := h
  injection e' with e1 e2 e3
  subst e1
  have hl : (L.drop m).length = n - m := by rw [List.length_drop, ← e2]
  refine ⟨_, c', by rw [hl], fun hne => ?_⟩
  have hne' : L ≠ [] := by intro e; rw [e] at hne; simp at hne
  obtain ⟨b, off, ha, hc⟩ := hr hne'
  cases ha
  refine ⟨_, _, rfl, fun i hi => ?_⟩
  rw [hl] at hi
  rw [List.getElem?_drop, show off + m + i = off + (m + i) by omega]
  exact hc (m + i) (by omega)
/-- The header that stands ahead. -/
def headOf (L : List Int) : Hd := ⟨L[0]?.getD 0, L[1]?.getD 0, L[2]?.getD 0, L[3]?.getD 0 * 256 + L[4]?.getD 0⟩
/-- The two boxes of a parse: the answer's and the header's. -/
structure PQ (w : World) (g : Nat) (cs : Array Value) (W : World) : Prop where
  old : Below w.heap.size w W
  res : W.heap[w.heap.size]? = some (.cells (hdA hd0) 116 (0, 0))
  blk : W.heap[g]? = some (.cells cs 116 (0, 0))
section
variable {w W : World} {g : Nat} {cs : Array Value}
theorem PQ.s {a b c d : Value} (h : PQ w g #[a, b, c, d] W) : W.cell? ⟨g, 0, none⟩ = some a ∧ W.cell? ⟨g, 1, none⟩ = some b ∧ W.cell? ⟨g, 2, none⟩ = some c ∧ W.cell? ⟨g, 3, none⟩ = some d :=
  ⟨by simp [World.cell?, h.blk], by simp [World.cell?, h.blk], by simp [World.cell?, h.blk], by simp [World.cell?, h.blk]⟩
theorem PQ.far {a b c d : Value} (h : PQ w g #[a, b, c, d] W) (hne : w.heap.size < g) (x y z u : Value) :
    ((((W.setCell ⟨w.heap.size, 0, none⟩ x).setCell ⟨w.heap.size, 1, none⟩ y).setCell ⟨w.heap.size, 2, none⟩ z).setCell ⟨w.heap.size, 3, none⟩ u).cell? ⟨g, 0, none⟩ = some a ∧ ((((W.setCell ⟨w.heap.size, 0, none⟩ x).setCell ⟨w.heap.size, 1, none⟩ y).setCell ⟨w.heap.size, 2, none⟩ z).setCell ⟨w.heap.size, 3, none⟩ u).cell? ⟨g, 1, none⟩ = some b ∧ ((((W.setCell ⟨w.heap.size, 0, none⟩ x).setCell ⟨w.heap.size, 1, none⟩ y).setCell ⟨w.heap.size, 2, none⟩ z).setCell ⟨w.heap.size, 3, none⟩ u).cell? ⟨g, 2, none⟩ = some c ∧ ((((W.setCell ⟨w.heap.size, 0, none⟩ x).setCell ⟨w.heap.size, 1, none⟩ y).setCell ⟨w.heap.size, 2, none⟩ z).setCell ⟨w.heap.size, 3, none⟩ u).cell? ⟨g, 3, none⟩ = some d := by
  have hb : ((((W.setCell ⟨w.heap.size, 0, none⟩ x).setCell ⟨w.heap.size, 1, none⟩ y).setCell ⟨w.heap.size, 2, none⟩ z).setCell ⟨w.heap.size, 3, none⟩ u).heap[g]? = some (.cells #[a, b, c, d] 116 (0, 0)) := by
    rw [Below.heap_setCell _ _ _ _ (by show g ≠ w.heap.size; omega), Below.heap_setCell _ _ _ _ (by show g ≠ w.heap.size; omega), Below.heap_setCell _ _ _ _ (by show g ≠ w.heap.size; omega), Below.heap_setCell _ _ _ _ (by show g ≠ w.heap.size; omega)]
    exact h.blk
  exact ⟨by simp [World.cell?, hb], by simp [World.cell?, hb], by simp [World.cell?, hb], by simp [World.cell?, hb]⟩
theorem PQ.drew (h : PQ w g cs W) : PQ w g cs W.drew := ⟨h.old.drew, h.res, h.blk⟩
theorem PQ.below {W' : World} (h : PQ w g cs W) (t : Below W.heap.size W W') : PQ w g cs W' := ⟨h.old.trans (t.mono h.old.size), (t.block _ (lt_of_block h.res)).trans h.res, (t.block _ (lt_of_block h.blk)).trans h.blk⟩
theorem PQ.c (h : PQ w g cs W) : W.cell? ⟨w.heap.size, 0, none⟩ = some (.int .u8 0) ∧ W.cell? ⟨w.heap.size, 1, none⟩ = some (.int .u8 0) ∧ W.cell? ⟨w.heap.size, 2, none⟩ = some (.int .u8 0) ∧ W.cell? ⟨w.heap.size, 3, none⟩ = some (.int .u16 0) ∧ ∀ o, W.frozen? ⟨w.heap.size, o, none⟩ = false :=
  ⟨by simp [World.cell?, h.res, hdA, hd0], by simp [World.cell?, h.res, hdA, hd0], by simp [World.cell?, h.res, hdA, hd0], by simp [World.cell?, h.res, hdA, hd0], fun o => by simp [World.frozen?, h.res]⟩
theorem PQ.fin {B : Nat} {v : Value} {M : List Int} (h : PQ w g cs W) (hB : w.heap.size < B) (hv : OwnBytes B W v M) (a b c d : Value) : OwnBytes w.heap.size ((((W.setCell ⟨w.heap.size, 0, none⟩ a).setCell ⟨w.heap.size, 1, none⟩ b).setCell ⟨w.heap.size, 2, none⟩ c).setCell ⟨w.heap.size, 3, none⟩ d) v M ∧ Below w.heap.size w ((((W.setCell ⟨w.heap.size, 0, none⟩ a).setCell ⟨w.heap.size, 1, none⟩ b).setCell ⟨w.heap.size, 2, none⟩ c).setCell ⟨w.heap.size, 3, none⟩ d) := by
  refine ⟨(hv.keep fun k hk _ => ?_).lower (by omega), (((h.old.setCell (Nat.le_refl _) _).setCell (Nat.le_refl _) _).setCell (Nat.le_refl _) _).setCell (Nat.le_refl _) _⟩
  rw [Below.heap_setCell _ _ _ _ (by show k ≠ w.heap.size; omega), Below.heap_setCell _ _ _ _ (by show k ≠ w.heap.size; omega), Below.heap_setCell _ _ _ _ (by show k ≠ w.heap.size; omega), Below.heap_setCell _ _ _ _ (by show k ≠ w.heap.size; omega)]
/-- The answer's box with the header laid into it. -/
theorem PQ.laid (h : PQ w g cs W) (a b c d : Value) : (((((W.setCell ⟨w.heap.size, 0, none⟩ a).setCell ⟨w.heap.size, 1, none⟩ b).setCell ⟨w.heap.size, 2, none⟩ c).setCell ⟨w.heap.size, 3, none⟩ d)).heap[w.heap.size]? = some (.cells #[a, b, c, d] 116 (0, 0)) := by
  have h1 := heap_set (heap_set (heap_set (heap_set h.res 0 a) 1 b) 2 c) 3 d
  rw [h1]
  rfl
end
set_option maxRecDepth 100000 in
set_option maxHeartbeats 4000000 in
theorem parse_ok (v : Value) (L : List Int) (w : World) (hr : CutRow w v L) (hl : 5 ≤ L.length) (hm : L.length ≤ 100000) (hby : ∀ x ∈ L, 0 ≤ x ∧ x < 256) (hx : L[0]?.getD 0 ≤ 8) :
    Calls Try.prog 76 #[v] w fun e w' => ∃ p, e = .returned (.tuple #[.agg (hdA (headOf L)), p, .int .i64 0]) ∧ OwnBytes w.heap.size w' p (L.drop 5) ∧ Below w.heap.size w w' := by
  obtain ⟨hr, a, cap, rfl, hcap, hnil⟩ := hr
  have hrr := hr
  obtain ⟨a', cap', e', hrow⟩ := hr
  injection e' with e1 e2 e3
  subst e1 e3
  obtain ⟨b, off, rfl, hc⟩ := hrow (by intro e; rw [e] at hl; simp at hl)
  unfold headOf
  have bd : ∀ i, i < L.length → 0 ≤ L[i]?.getD 0 ∧ L[i]?.getD 0 ≤ 255 := fun i hi => by
    have := hby (L[i]?.getD 0) (by rw [List.getElem?_eq_getElem hi]; exact List.getElem_mem hi)
    omega
  have c0 := hc 0 (by omega)
  have c1 := hc 1 (by omega)
  have c2 := hc 2 (by omega)
  have c3 := hc 3 (by omega)
  have c4 := hc 4 (by omega)
  have d0 := bd 0 (by omega)
  have d1 := bd 1 (by omega)
  have d2 := bd 2 (by omega)
  have d3 := bd 3 (by omega)
  have d4 := bd 4 (by omega)
  obtain ⟨x0, h0⟩ : ∃ x, x = L[0]?.getD 0 := ⟨_, rfl⟩
  obtain ⟨x1, h1⟩ : ∃ x, x = L[1]?.getD 0 := ⟨_, rfl⟩
  obtain ⟨x2, h2⟩ : ∃ x, x = L[2]?.getD 0 := ⟨_, rfl⟩
  obtain ⟨x3, h3⟩ : ∃ x, x = L[3]?.getD 0 := ⟨_, rfl⟩
  obtain ⟨x4, h4⟩ : ∃ x, x = L[4]?.getD 0 := ⟨_, rfl⟩
  rw [← h0] at c0 d0 hx ⊢
  rw [← h1] at c1 d1 ⊢
  rw [← h2] at c2 d2 ⊢
  rw [← h3] at c3 d3 ⊢
  rw [← h4] at c4 d4 ⊢
  obtain ⟨W1, hW1⟩ : ∃ W1, W1 = w.alloc (.cells (hdA hd0) 116) := ⟨_, rfl⟩
  have HB : Hid (Below w.heap.size w W1) := Lib.hid (by rw [hW1]; exact below_alloc w _)
  have HZ : W1.heap.size = w.heap.size + 1 := by rw [hW1, World.size_alloc]
  have HBLK : Hid (W1.heap[w.heap.size]? = some (.cells (hdA hd0) 116 (0, 0))) := Lib.hid (by rw [hW1]; exact heap_alloc_new w _)
  have c0 := (HB.out.cell (World.block_lt_of_cell? w _ c0)).trans c0
  have c1 := (HB.out.cell (World.block_lt_of_cell? w _ c1)).trans c1
  have c2 := (HB.out.cell (World.block_lt_of_cell? w _ c2)).trans c2
  have c3 := (HB.out.cell (World.block_lt_of_cell? w _ c3)).trans c3
  have c4 := (HB.out.cell (World.block_lt_of_cell? w _ c4)).trans c4
  simp only [Nat.add_zero] at c0
  have g0 := fun o => ((below_alloc W1 o).cell (World.block_lt_of_cell? W1 _ c0)).trans c0
  have g1 := fun o => ((below_alloc W1 o).cell (World.block_lt_of_cell? W1 _ c1)).trans c1
  have g2 := fun o => ((below_alloc W1 o).cell (World.block_lt_of_cell? W1 _ c2)).trans c2
  have g3 := fun o => ((below_alloc W1 o).cell (World.block_lt_of_cell? W1 _ c3)).trans c3
  have g4 := fun o => ((below_alloc W1 o).cell (World.block_lt_of_cell? W1 _ c4)).trans c4
  have HR := Lib.hid (hrr.below HB.out)
  obtain ⟨n, hn⟩ : ∃ n, n = L.length := ⟨_, rfl⟩
  have HN := Lib.hid hn
  rw [← hn] at hl hcap hm HR ⊢
  have hz := (zero_of_info info_hd).1
  have t : (5 : Int) ≤ (n : Int) := by omega
  have i0 : (0 : Int) < (n : Int) := by omega
  have i1 : (1 : Int) < (n : Int) := by omega
  have i2 : (2 : Int) < (n : Int) := by omega
  have i3 : (3 : Int) < (n : Int) := by omega
  have i4 : (4 : Int) < (n : Int) := by omega
  have HW1 := Lib.hid hW1.symm
  have HHZ := Lib.hid HZ
  have HOR := Lib.hid (or_u16 x3 x4 d3.1 d3.2 d4.1 d4.2)
  obtain ⟨a0, a1⟩ := d0
  obtain ⟨a2, a3⟩ := d1
  obtain ⟨a4, a5⟩ := d2
  obtain ⟨a6, a7⟩ := d3
  obtain ⟨a8, a9⟩ := d4
  clear hrow hn hc h0 h1 h2 h3 h4 bd hby hrr e2 hW1 HZ hnil
  go_enter Try.func76, Try.ntmps76
  go_upto_region 1 with fail
  rw [show w.alloc (.cells #[.int .u8 0, .int .u8 0, .int .u8 0, .int .u16 0] 116) = W1 from HW1.out]
  go_upto_region 5 with fail
  go_region
  rw [HOR.out]
  have HQ0 : Hid (PQ w W1.heap.size #[.int .u8 x0, .int .u8 x1, .int .u8 x2, .int .u16 (x3 * 256 + x4)] (W1.alloc (.cells #[.int .u8 x0, .int .u8 x1, .int .u8 x2, .int .u16 (x3 * 256 + x4)] 116)).drew) := Lib.hid ⟨(HB.out.alloc (by rw [HHZ.out]; omega) _).drew, (Below.heap_alloc _ _ _ (by rw [HHZ.out]; omega)).trans HBLK.out, heap_alloc_new W1 _⟩
  have HR0 := Lib.hid (HR.out.below ((below_alloc W1 (.cells #[.int .u8 x0, .int .u8 x1, .int .u8 x2, .int .u16 (x3 * 256 + x4)] 116)).drew))
  obtain ⟨W3, hW3⟩ : ∃ W3, W3 = (W1.alloc (.cells #[.int .u8 x0, .int .u8 x1, .int .u8 x2, .int .u16 (x3 * 256 + x4)] 116)).drew := ⟨_, rfl⟩
  rw [← hW3] at HQ0 HR0 ⊢
  clear hW3 g0 g1 g2 g3 g4 c0 c1 c2 c3 c4
  have hs3 := HQ0.out.old.size
  have HS3 := Lib.hid hs3
  have HBZ : Hid (w.heap.size < W3.heap.size) := Lib.hid (lt_of_block HQ0.out.res)
  obtain ⟨g, hg⟩ : ∃ g, g = W1.heap.size := ⟨_, rfl⟩
  have HGL : Hid (w.heap.size < g) := Lib.hid (by rw [hg, HHZ.out]; omega)
  rw [← hg] at HQ0 ⊢
  clear hg hs3
  go_upto_region 6 with fail
  obtain ⟨m, hm'⟩ : ∃ m, m = (L.drop 5).length := ⟨_, rfl⟩
  have hm5 : m = n - 5 := by rw [hm', List.length_drop, ← HN.out]
  have HMX : Hid ((L.drop 5).length ≤ 100000) := Lib.hid (by rw [← hm', hm5]; omega)
  clear hm' hm5
  rcases Nat.lt_or_ge 5 cap with h5 | h5
  · have k3 : ¬ cap = 5 := by omega
    have k1 : (5 : Int) ≤ (cap : Int) := by omega
    have k2 : (5 : Int) < (cap : Int) := by omega
    have HRD := Lib.hid (RowOf.dropTo HR0.out 5 hl (cap - 5))
    first
    | (go_region_held3 (fun W => W.cell? ⟨g, 0, none⟩ = some (.int .u8 x0) ∧ W.cell? ⟨g, 1, none⟩ = some (.int .u8 x1) ∧ W.cell? ⟨g, 2, none⟩ = some (.int .u8 x2) ∧ W.cell? ⟨g, 3, none⟩ = some (.int .u16 (x3 * 256 + x4)))
        (with_reducible (first | assumption | exact HQ0.out.s | exact HQ0.out.drew.s | exact HF.out.1.s | exact HF.out.1.drew.s | exact HF.out.1.far HGL.out _ _ _ _))
        ((refine step_append_row (by rfl) _ _ (by rfl) (OwnBytes.nil W3.heap.size _) (HRD.out.kept fun _ _ _ h => h) (fun _ _ h => by cases h) (by rfl) (by rfl) (by simp; have := HMX.out; simp at this; omega) (Nat.le_refl _) (w0 := W3) (Below.refl _ W3).drew ?_; intro v' w5 hown hold _ _; have HO5 := Lib.hid hown; have HF := Lib.hid (show PQ w g #[.int .u8 x0, .int .u8 x1, .int .u8 x2, .int .u16 (x3 * 256 + x4)] w5 ∧ Below W3.heap.size W3 w5 from ⟨HQ0.out.below hold, hold⟩); obtain ⟨e0, e1, e2, e3, ef⟩ := HF.out.1.c; have f0 := ef 0; have f1 := ef 1; have f2 := ef 2; have f3 := ef 3; clear hown hold ef)))
    | fail
    go_wp2_with fail
    refine bodyPost_ret (results_row_tmp2 rfl _ _ w.heap.size _ rfl (load_hd (HF.out.1.laid _ _ _ _) rfl)) rfl ?_
    obtain ⟨q1, q2⟩ := HF.out.1.fin HBZ.out HO5.out (.int .u8 x0) (.int .u8 x1) (.int .u8 x2) (.int .u16 (x3 * 256 + x4))
    exact ⟨_, rfl, q1, q2⟩
  · obtain rfl : cap = 5 := by omega
    obtain rfl : n = 5 := by omega
    have HRD : Hid (RowOf .u8 W3 (.slice (some ⟨b, off, none⟩) 0 0) (L.drop 5)) := Lib.hid (by
      rw [show L.drop 5 = [] from List.drop_eq_nil_of_le (by rw [← HN.out]; exact Nat.le_refl _)]
      exact ⟨_, 0, rfl, fun h => absurd rfl h⟩)
    first
    | (go_region_held3 (fun W => W.cell? ⟨g, 0, none⟩ = some (.int .u8 x0) ∧ W.cell? ⟨g, 1, none⟩ = some (.int .u8 x1) ∧ W.cell? ⟨g, 2, none⟩ = some (.int .u8 x2) ∧ W.cell? ⟨g, 3, none⟩ = some (.int .u16 (x3 * 256 + x4)))
        (with_reducible (first | assumption | exact HQ0.out.s | exact HQ0.out.drew.s | exact HF.out.1.s | exact HF.out.1.drew.s | exact HF.out.1.far HGL.out _ _ _ _))
        ((refine step_append_row (by rfl) _ _ (by rfl) (OwnBytes.nil W3.heap.size _) (HRD.out.kept fun _ _ _ h => h) (fun _ _ h => by cases h) (by rfl) (by rfl) (by simp; have := HMX.out; simp at this; omega) (Nat.le_refl _) (w0 := W3) (Below.refl _ W3).drew ?_; intro v' w5 hown hold _ _; have HO5 := Lib.hid hown; have HF := Lib.hid (show PQ w g #[.int .u8 x0, .int .u8 x1, .int .u8 x2, .int .u16 (x3 * 256 + x4)] w5 ∧ Below W3.heap.size W3 w5 from ⟨HQ0.out.below hold, hold⟩); obtain ⟨e0, e1, e2, e3, ef⟩ := HF.out.1.c; have f0 := ef 0; have f1 := ef 1; have f2 := ef 2; have f3 := ef 3; clear hown hold ef)))
    | fail
    go_wp2_with fail
    refine bodyPost_ret (results_row_tmp2 rfl _ _ w.heap.size _ rfl (load_hd (HF.out.1.laid _ _ _ _) rfl)) rfl ?_
    obtain ⟨q1, q2⟩ := HF.out.1.fin HBZ.out HO5.out (.int .u8 x0) (.int .u8 x1) (.int .u8 x2) (.int .u16 (x3 * 256 + x4))
    exact ⟨_, rfl, q1, q2⟩
end Go.Proofs.Ytkolhjglehnigaa.Head
