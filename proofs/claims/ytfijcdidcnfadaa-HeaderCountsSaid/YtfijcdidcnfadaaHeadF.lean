/-
  The reference's Give and Got.
-/
import Derived.Test.YtfijcdidcnfadaaHeadD
import Derived.Test.YtfijcdidcnfadaaAppInt
namespace Go.Proofs.Ytfijcdidcnfadaa.Head
open Go.RowKit Base
set_option linter.unusedVariables false

theorem size_rc : (Try.prog.info? 52).map (·.size) = some 2 := by kernel_rfl
theorem info_rc : (Try.prog.info? 52).map (fun i => (i.zero, i.size)) = some (some (.agg #[.int .i64 0, .slice none 0 0]), 2) := by kernel_rfl
theorem results_row_tmp1 {fn : Func} {p u : Tmp} {ty : TypeId} (h : fn.results = #[.cell p ty, .tmp u]) (tmps : Array Value) (w : World) (g : Nat) (cs : Array Value)
    (hp : tmps.getD p undef = .pointer (some ⟨g, 0, none⟩)) (hrun : (loadVar ty ⟨g, 0, none⟩).run Try.prog w = .ok (.agg cs) w) :
    (results fn tmps).run Try.prog w = .ok (.tuple #[.agg cs, tmps.getD u undef]) w := by
  have hp' : tmps[p]?.getD undef = .pointer (some ⟨g, 0, none⟩) := by simpa using hp
  simp only [results, h]
  simp [Result.andThen, hp', asAddr, hrun]
theorem load_rc {g : Nat} {W : World} {cs : Array Value} (hr : W.heap[g]? = some (.cells cs 52 (0, 0))) (hs : cs.size = 2) : (loadVar 52 ⟨g, 0, none⟩).run Try.prog W = .ok (.agg cs) W :=
  run_loadVar_row _ g 52 52 cs (0, 0) _ hr Try.underlying52 rfl (by rw [hs]; exact size_rc)
def giveR (P : List Int) (n : Int) : List Int := if 64 < (P ++ [n]).length then (P ++ [n]).drop 1 else P ++ [n]
theorem own0I {s : Nat} {w : World} (h : s ≤ w.heap.size) : OwnInts s (w.alloc (.cells #[] 3)) (.slice (some ⟨w.heap.size, 0, none⟩) 0 0) [] :=
  ⟨rfl, .inr ⟨w.heap.size, 0, #[], rfl, h, heap_alloc_new w _, by simp, by simp [maxLen], rfl, by simp⟩⟩
theorem cutI_nil {w : World} {v : Value} {L : List Int} (h : CutInt w v L) : ∀ n c, v = .slice none n c → c = 0 := by
  obtain ⟨_, a, c, rfl, _, h⟩ := h
  intro n c' e
  injection e with e1 e2 e3
  rw [← e3]; exact h e1
/-- Two boxes of the reference's counters: what came and the answer. -/
structure RQ (w : World) (s : Nat) (n : Int) (u : Value) (a : Array Value) (W : World) : Prop where
  old : Below s w W
  box : W.heap[s]? = some (.cells #[.int .i64 n, u] 52 (0, 0))
  res : W.heap[s + 1]? = some (.cells a 52 (0, 0))
section
variable {w W W' : World} {s : Nat} {n : Int} {u : Value} {a : Array Value}
theorem RQ.c (h : RQ w s n u a W) : W.cell? ⟨s, 0, none⟩ = some (.int .i64 n) ∧ W.cell? ⟨s, 1, none⟩ = some u ∧ (∀ o, W.frozen? ⟨s, o, none⟩ = false) ∧ (∀ o, W.frozen? ⟨s + 1, o, none⟩ = false) :=
  ⟨by simp [World.cell?, h.box], by simp [World.cell?, h.box], fun o => by simp [World.frozen?, h.box], fun o => by simp [World.frozen?, h.res]⟩
theorem RQ.rc {a0 a1 : Value} (h : RQ w s n u #[a0, a1] W) : W.cell? ⟨s + 1, 0, none⟩ = some a0 ∧ W.cell? ⟨s + 1, 1, none⟩ = some a1 := ⟨by simp [World.cell?, h.res], by simp [World.cell?, h.res]⟩
theorem RQ.below {B : Nat} (h : RQ w s n u a W) (hB : s + 2 ≤ B) (t : Below B W W') : RQ w s n u a W' :=
  ⟨h.old.trans (t.mono (by omega)), (t.block _ (by omega)).trans h.box, (t.block _ (by omega)).trans h.res⟩
theorem RQ.set (h : RQ w s n u a W) (u' : Value) : RQ w s n u' a (W.setCell ⟨s, 1, none⟩ u') :=
  ⟨h.old.setCell (Nat.le_refl _) _, by have := heap_set h.box 1 u'; rw [this]; rfl, (Below.heap_setCell _ _ _ _ (by show s + 1 ≠ s; omega)).trans h.res⟩
theorem RQ.fin {a0 a1 : Value} (h : RQ w s n u #[a0, a1] W) (x : Value) : ((W.setCell ⟨s + 1, 0, none⟩ (.int .i64 n)).setCell ⟨s + 1, 1, none⟩ x).heap[s + 1]? = some (.cells #[.int .i64 n, x] 52 (0, 0)) ∧ Below s w ((W.setCell ⟨s + 1, 0, none⟩ (.int .i64 n)).setCell ⟨s + 1, 1, none⟩ x) ∧ ∀ k, k ≠ s + 1 → ((W.setCell ⟨s + 1, 0, none⟩ (.int .i64 n)).setCell ⟨s + 1, 1, none⟩ x).heap[k]? = W.heap[k]? := by
  refine ⟨?_, (h.old.setCell (by simp) _).setCell (by simp) _, fun k hk => ?_⟩
  · have h1 := heap_set (heap_set h.res 0 (.int .i64 n)) 1 x
    rw [h1]
    rfl
  · rw [Below.heap_setCell _ _ _ _ (by show k ≠ s + 1; exact hk), Below.heap_setCell _ _ _ _ (by show k ≠ s + 1; exact hk)]
end
set_option maxRecDepth 100000 in
set_option maxHeartbeats 4000000 in
theorem rgive_any (nx : Int) (u : Value) (P : List Int) (w : World) (n0 : 0 ≤ nx) (n1 : nx ≤ 32767) (hr : CutInt w u P) (hl : P.length ≤ 64) :
    Calls Try.prog 28 #[.agg #[.int .i64 nx, u]] w fun e w' => ∃ u', e = .returned (.tuple #[.agg #[.int .i64 ((nx + 1) % 32768), u'], .int .i64 nx]) ∧ CutIn (fun b => w.heap.size ≤ b) w' u' (giveR P nx) ∧ Below w.heap.size w w' := by
  have hz := (zero_of_info info_rc).1
  obtain ⟨s, hs⟩ : ∃ s, s = w.heap.size := ⟨_, rfl⟩
  have HS := Lib.hid hs.symm
  have HR := Lib.hid hr
  obtain ⟨G, hG⟩ : ∃ G, G = giveR P nx := ⟨_, rfl⟩
  rw [← hG, ← hs]
  have HG := Lib.hid hG
  clear hs hG hr
  go_enter Try.func28, Try.ntmps28
  go_upto_region 3 with fail
  rw [HS.out]
  have hq0 : RQ w s ((nx + 1) % 32768) u #[.int .i64 0, .slice none 0 0] ((w.alloc (.cells #[.int .i64 ((nx + 1) % 32768), u] 52)).alloc (.cells #[.int .i64 0, .slice none 0 0] 52)) := by
    have z1 : (w.alloc (.cells #[.int .i64 ((nx + 1) % 32768), u] 52)).heap.size = s + 1 := by rw [World.size_alloc, HS.out]
    refine ⟨(((Below.refl s w).alloc (by rw [HS.out]; omega) _).alloc (by rw [z1]; omega) _), ?_, ?_⟩
    · rw [Below.heap_alloc _ _ _ (by rw [z1]; omega), ← HS.out]; exact heap_alloc_new w _
    · rw [← z1]; exact heap_alloc_new _ _
  have hz0 : ((w.alloc (.cells #[.int .i64 ((nx + 1) % 32768), u] 52)).alloc (.cells #[.int .i64 0, .slice none 0 0] 52)).heap.size = s + 2 := by rw [World.size_alloc, World.size_alloc, HS.out]
  obtain ⟨W0, hW0⟩ : ∃ W0, W0 = (w.alloc (.cells #[.int .i64 ((nx + 1) % 32768), u] 52)).alloc (.cells #[.int .i64 0, .slice none 0 0] 52) := ⟨_, rfl⟩
  rw [← hW0] at hq0 hz0 ⊢
  have ho1 := own0I (s := s + 2) (w := W0) (by omega)
  have hb1 := below_alloc W0 (.cells #[] 3)
  obtain ⟨W1, hW1⟩ : ∃ W1, W1 = W0.alloc (.cells #[] 3) := ⟨_, rfl⟩
  rw [← hW1] at ho1 hb1
  rw [hz0] at ho1 hb1
  have hz1 : s + 2 ≤ W1.heap.size := by have := hb1.size; omega
  have hq1 := hq0.below (Nat.le_refl _) hb1
  have HQ1 := Lib.hid hq1
  have HO1 := Lib.hid ho1
  have HR1 := Lib.hid (HR.out.1.below (by rw [HS.out]; exact hq1.old))
  have HNIL := Lib.hid (cutI_nil HR.out)
  have HZ0 := Lib.hid hz0
  have HW1 := Lib.hid hW1.symm
  have HQ1o := Lib.hid hq1.old
  obtain ⟨c0, c1, f0, f1⟩ := hq1.c
  clear hq0 ho1 hb1 hW1 hW0 hz0 hq1 c0 f0 f1
  go_upto_region 4 with fail
  rw [HZ0.out, HW1.out]
  go_upto_region 5 with (at_builtin; refine append_int rfl _ _ rfl HO1.out HR1.out HNIL.out rfl rfl (by simp; omega) hz1 (Below.refl (s + 2) W1) ?_; intro v2 W2 hown hold _ hsz2; have HO2 := Lib.hid hown; have HB2 := Lib.hid hold; clear hown hold)
  have hq2 := HQ1.out.below (Nat.le_refl _) HB2.out
  obtain ⟨_, _, f0, f1⟩ := hq2.c
  have f01 := f0 1
  have HQ2 := Lib.hid hq2
  have hz2 : s + 2 ≤ W2.heap.size := by omega
  have ho2 := HO2.out
  rw [List.nil_append] at ho2
  have HO2b := Lib.hid (ho2.below (below_alloc W2 (.cells #[.int .i64 nx] 3)))
  have HRO := Lib.hid (row_oneI W2 nx 3)
  have HAB := Lib.hid ((Below.refl (s + 2) W2).alloc hz2 (.cells #[.int .i64 nx] 3))
  clear ho2 hq2 c1
  obtain ⟨m, hm⟩ : ∃ m, m = (P ++ [nx]).length := ⟨_, rfl⟩
  have hm65 : m = P.length + 1 := by rw [hm, List.length_append, List.length_singleton]
  have HM := Lib.hid hm.symm
  clear hm
  have HNE : Hid (0 < (P ++ [nx]).length) := Lib.hid (by rw [HM.out]; omega)
  by_cases h64 : 64 < m
  · have h64' : (64 : Int) < (m : Int) := by omega
    obtain rfl : m = 65 := by omega
    clear hm65
    have HG2 : Hid (G = (P ++ [nx]).drop 1) := Lib.hid (by rw [HG.out, giveR, if_pos (by rw [HM.out]; omega)])
    go_upto_region 6 with (at_builtin; refine append_int rfl _ _ rfl HO2b.out HRO.out (fun _ _ h => by cases h) rfl rfl (by simp; omega) (by rw [World.size_alloc]; omega) HAB.out ?_; intro v3 W3 hown hold _ hsz3; obtain ⟨g, gc, hv, hg, hgc⟩ := hown.some HNE.out; rw [HM.out] at hv hgc; subst hv; have HO3 := Lib.hid hown; have HB3 := Lib.hid hold; have HQ3 := Lib.hid (HQ2.out.below (Nat.le_refl _) hold); obtain ⟨_, d1, g0, g1⟩ := HQ3.out.c; have g01 := g0 1; clear hown hold g0 g1 f01)
    have hq4 := HQ3.out.set (.slice (some ⟨g, 0, none⟩) 65 gc)
    have hrow3 := HO3.out.row
    have hrow4 := row_far (W' := W3.setCell ⟨s, 1, none⟩ (.slice (some ⟨g, 0, none⟩) 65 gc)) hrow3 (Below.heap_setCell _ _ _ _ (by show g ≠ s; omega))
    obtain ⟨W4, hW4⟩ : ∃ W4, W4 = W3.setCell ⟨s, 1, none⟩ (.slice (some ⟨g, 0, none⟩) 65 gc) := ⟨_, rfl⟩
    rw [← hW4] at hq4 hrow4 ⊢
    have HQ4 := Lib.hid hq4
    have HR4 := Lib.hid hrow4
    obtain ⟨e0, e1, h0, h1⟩ := hq4.c
    have h01 := h0 1
    have k1 : ¬ gc = 1 := by omega
    have k2 : (1 : Int) ≤ (gc : Int) := by omega
    clear hq4 hrow3 hrow4 h0 h1 hW4 d1 g01 e0
    go_upto_region 8 with fail
    have hq5 := HQ4.out.set (.slice (some ⟨g, 0 + 1, none⟩) (65 - 1) (gc - 1))
    have hrow5 := row_far (W' := W4.setCell ⟨s, 1, none⟩ (.slice (some ⟨g, 0 + 1, none⟩) (65 - 1) (gc - 1))) (RowOf.dropK HR4.out 1 (by omega) (gc - 1)) (Below.heap_setCell _ _ _ _ (by show g ≠ s; omega))
    simp only [Nat.zero_add, Nat.reduceSub] at hq5 hrow5
    rw [← HG2.out] at hrow5
    have HGL : Hid (G.length = 64) := Lib.hid (by rw [HG2.out, List.length_drop, HM.out])
    obtain ⟨W5, hW5⟩ : ∃ W5, W5 = W4.setCell ⟨s, 1, none⟩ (.slice (some ⟨g, 1, none⟩) 64 (gc - 1)) := ⟨_, rfl⟩
    rw [← hW5] at hq5 hrow5 ⊢
    clear hW5 e1 h01
    have HC5 : Hid (CutInt W5 (.slice (some ⟨g, 1, none⟩) 64 (gc - 1)) G) := Lib.hid ⟨hrow5, _, _, by rw [HGL.out], by rw [HGL.out]; omega, fun e => by cases e⟩
    have HQ5 := Lib.hid hq5
    obtain ⟨x0, x1, h0, h1⟩ := hq5.c
    obtain ⟨y0, y1⟩ := hq5.rc
    have h10 := h1 0
    have h11 := h1 1
    have HGS : Hid (s + 2 ≤ g) := Lib.hid hg
    clear hq5 hrow5 h0 h1
    go_wp2_with fail
    obtain ⟨r1, r2, r3⟩ := HQ5.out.fin (.slice (some ⟨g, 1, none⟩) 64 (gc - 1))
    refine bodyPost_ret (results_row_tmp1 rfl _ _ (s + 1) _ rfl (load_rc r1 rfl)) rfl ?_
    exact ⟨_, rfl, ⟨row_in (row_far HC5.out.1 (r3 g (by have := HGS.out; omega))) (by have := HGS.out; omega), HC5.out.2⟩, r2⟩
  · have hm64 : (m : Int) ≤ 64 := by omega
    clear hm65
    have HG2 : Hid (G = P ++ [nx]) := Lib.hid (by rw [HG.out, giveR, if_neg (by rw [HM.out]; exact h64)])
    clear h64
    go_upto_region 6 with (at_builtin; refine append_int rfl _ _ rfl HO2b.out HRO.out (fun _ _ h => by cases h) rfl rfl (by simp; omega) (by rw [World.size_alloc]; omega) HAB.out ?_; intro v3 W3 hown hold _ hsz3; obtain ⟨g, gc, hv, hg, hgc⟩ := hown.some HNE.out; rw [HM.out] at hv hgc; subst hv; have HO3 := Lib.hid hown; have HB3 := Lib.hid hold; have HQ3 := Lib.hid (HQ2.out.below (Nat.le_refl _) hold); obtain ⟨_, d1, g0, g1⟩ := HQ3.out.c; have g01 := g0 1; clear hown hold g0 g1 f01)
    have hq5 := HQ3.out.set (.slice (some ⟨g, 0, none⟩) m gc)
    have hrow3 := HO3.out.row
    have hrow5 := row_far (W' := W3.setCell ⟨s, 1, none⟩ (.slice (some ⟨g, 0, none⟩) m gc)) hrow3 (Below.heap_setCell _ _ _ _ (by show g ≠ s; omega))
    rw [← HG2.out] at hrow5
    have HGL : Hid (G.length = m) := Lib.hid (by rw [HG2.out, HM.out])
    obtain ⟨W5, hW5⟩ : ∃ W5, W5 = W3.setCell ⟨s, 1, none⟩ (.slice (some ⟨g, 0, none⟩) m gc) := ⟨_, rfl⟩
    rw [← hW5] at hq5 hrow5 ⊢
    clear hW5 hrow3 d1 g01
    have HC5 : Hid (CutInt W5 (.slice (some ⟨g, 0, none⟩) m gc) G) := Lib.hid ⟨hrow5, _, _, by rw [HGL.out], by rw [HGL.out]; omega, fun e => by cases e⟩
    have HQ5 := Lib.hid hq5
    obtain ⟨x0, x1, h0, h1⟩ := hq5.c
    obtain ⟨y0, y1⟩ := hq5.rc
    have h10 := h1 0
    have h11 := h1 1
    have HGS : Hid (s + 2 ≤ g) := Lib.hid hg
    clear hq5 hrow5 h0 h1 x0
    have h0x := HQ5.out.c.1
    go_wp2_with fail
    obtain ⟨r1, r2, r3⟩ := HQ5.out.fin (.slice (some ⟨g, 0, none⟩) m gc)
    refine bodyPost_ret (results_row_tmp1 rfl _ _ (s + 1) _ rfl (load_rc r1 rfl)) rfl ?_
    exact ⟨_, rfl, ⟨row_in (row_far HC5.out.1 (r3 g (by have := HGS.out; omega))) (by have := HGS.out; omega), HC5.out.2⟩, r2⟩
end Go.Proofs.Ytfijcdidcnfadaa.Head
