/-
  The reference's add: its contract.
-/
import Derived.Test.YtimidoaafllnkaaRefA
import Derived.Test.YtimidoaafllnkaaAsA
namespace Go.Proofs.Ytimidoaafllnkaa.Iac
open Go.RowKit Base
set_option linter.unusedVariables false

/-- A row of bytes that was there, or one of the call's own. -/
def RB (s : Nat) (w : World) (u : Value) (L : List Int) : Prop := RowIn (fun k => k < s) .u8 w u L ∨ OwnBytes s w u L
theorem RB.row {s : Nat} {w : World} {u : Value} {L : List Int} (h : RB s w u L) : RowOf .u8 w u L := h.elim (fun h => h.row) (fun h => h.row)
theorem RB.below {s : Nat} {w w' : World} {u : Value} {L : List Int} (h : RB s w u L) (t : Below w.heap.size w w') : RB s w' u L := h.elim (fun h => .inl (h.below t)) (fun h => .inr (h.below t))
theorem RB.slice {s : Nat} {w : World} {u : Value} {L : List Int} (h : RB s w u L) : ∃ a c, u = .slice a L.length c := by
  obtain ⟨a, c, e, _⟩ := h.row
  exact ⟨a, c, e⟩
/-- The reference's events, of the call's own. -/
structure ROwn (s : Nat) (w : World) (v : Value) (P : List EvP) : Prop where
  row : w.ownsRow s 32 4 v P.length (evC P)
  rb : ∀ p ∈ P, RB s w p.2 p.1.bytes
theorem rev_ne {s s' : Nat} {w : World} {v u : Value} {n : Nat} {xs : List Value} {L : List Int} (h : w.ownsRow s 32 4 v n xs) (k : OwnBytes s' w u L) : ∀ g, v.ownBlock = some g → u.ownBlock = some g → False := by
  intro g e1 e2
  obtain ⟨c, fz, h1⟩ := Lib.ownsRow_kind h g e1
  obtain ⟨c', fz', h2⟩ := Lib.ownsRow_kind k g e2
  rw [h1] at h2
  cases h2
theorem ROwn.evsAt {s : Nat} {w : World} {v : Value} {P : List EvP} (h : ROwn s w v P) : EvsAt w v (P.map (·.1)) := RevOwn.evsAt ⟨h.row, fun p hp => (h.rb p hp).row⟩
theorem ROwn.below {s : Nat} {w w' : World} {v : Value} {P : List EvP} (h : ROwn s w v P) (t : Below w.heap.size w w') : ROwn s w' v P :=
  ⟨ownsRow_keep h.row fun g _ _ hl => t.block g hl, fun p hp => (h.rb p hp).below t⟩
/-- Behind an append onto a row of the reference's events bytes are as they were. -/
theorem RB.grown {s s' : Nat} {w w1 : World} {v u : Value} {n : Nat} {xs : List Value} {L : List Int} (h : RB s w u L) (hv : w.ownsRow s' 32 4 v n xs) (hs : s ≤ s') (hg : w.grownBy w1 v.ownBlock) : RB s w1 u L := by
  rcases h with h | h
  · refine .inl (h.turn (T := fun k => s ≤ k) ⟨hg.os, hg.tape, hg.output, hg.size, fun k hk hS => hg.block k hk fun e => hS (Nat.le_trans hs (row_first hv k e.symm))⟩ fun b hb => by omega)
  · exact .inr (ownsRow_keep h fun g hqg _ hl => hg.block g hl fun ee => rev_ne hv h g ee.symm hqg)
theorem ROwn.more {s : Nat} {w w1 : World} {v v' u : Value} {P : List EvP} {e : Ev} (h : ROwn s w v P) (hu : RB s w u e.bytes) (hown : w1.ownsRow s 32 4 v' (P.length + 1) (evC P ++ [.int .i64 e.kind, .int .u8 e.code, .int .u8 e.option, u])) (hg : w.grownBy w1 v.ownBlock) : ROwn s w1 v' (P ++ [(e, u)]) := by
  refine ⟨by rw [List.length_append, evC_append]; exact hown, fun p hp => ?_⟩
  rcases List.mem_append.1 hp with hp | hp
  · exact (h.rb p hp).grown h.row (Nat.le_refl _) hg
  · rw [List.mem_singleton.1 hp]; exact hu.grown h.row (Nat.le_refl _) hg
def Added (s : Nat) (w : World) (L : List Ev) (e : Ending) (w' : World) : Prop := ∃ v P, e = .returned v ∧ ROwn s w' v P ∧ P.map (·.1) = L ∧ Below s w w'
theorem rows8_two (w : World) (x y : Value) (X Y : List Int) (hx : RowOf .u8 w x X) (hy : RowOf .u8 w y Y) : Rows8 (w.alloc (.cells #[x, y] 24)) (.slice (some ⟨w.heap.size, 0, none⟩) 2 2) [X, Y] := by
  have hb := below_alloc w (.cells #[x, y] 24)
  refine ⟨_, 2, rfl, fun _ => ⟨w.heap.size, 0, rfl, by simp, fun i r hi => ?_⟩⟩
  match i, hi with
  | 0, hi => simp at hi; subst hi; exact ⟨x, by simp [go_sem], hx.below hb⟩
  | 1, hi => simp at hi; subst hi; exact ⟨y, by simp [go_sem], hy.below hb⟩
set_option maxRecDepth 100000 in
set_option maxHeartbeats 2000000 in
theorem radd_any (s : Nat) (v : Value) (P : List EvP) (e : Ev) (ua : Option Addr) (ul uc : Nat) (w : World) (h : ROwn s w v P) (hu : RB s w (.slice ua ul uc) e.bytes) (hs : s ≤ w.heap.size) (hm : P.length ≤ 50000) (hb : ∀ p ∈ P, p.1.bytes.length ≤ 100000) (hbe : e.bytes.length ≤ 100000) :
    Calls Try.prog 67 #[v, .agg #[.int .i64 e.kind, .int .u8 e.code, .int .u8 e.option, .slice ua ul uc]] w (Added s w (addL (P.map (·.1)) e)) := by
  obtain ⟨i0, hi, hz0, hz1, hz2⟩ := info_parts info_revent
  obtain ⟨W0, hW0⟩ : ∃ W, W = w.alloc (.cells #[.int .i64 e.kind, .int .u8 e.code, .int .u8 e.option, .slice ua ul uc] 32) := ⟨_, rfl⟩
  have hb0 := below_alloc w (.cells #[.int .i64 e.kind, .int .u8 e.code, .int .u8 e.option, .slice ua ul uc] 32)
  have e0 : W0.cell? ⟨w.heap.size, 0, none⟩ = some (.int .i64 e.kind) := by rw [hW0]; simp [go_sem]
  have e1 : W0.cell? ⟨w.heap.size, 1, none⟩ = some (.int .u8 e.code) := by rw [hW0]; simp [go_sem]
  have e2 : W0.cell? ⟨w.heap.size, 2, none⟩ = some (.int .u8 e.option) := by rw [hW0]; simp [go_sem]
  have e3 : W0.cell? ⟨w.heap.size, 3, none⟩ = some (.slice ua ul uc) := by rw [hW0]; simp [go_sem]
  rw [← hW0] at hb0
  have hs0 : s ≤ W0.heap.size := by have := hb0.size; omega
  have H0 := Lib.hid (h.below hb0)
  have HU0 := Lib.hid (hu.below hb0)
  have HB0 := Lib.hid (hb0.mono hs)
  have HW0 := Lib.hid hW0.symm
  have hraw := (h.below hb0).row
  have HCL := Lib.hid (rev_cl W0 e.kind e.code e.option (.slice ua ul uc))
  obtain ⟨va, vc, rfl⟩ := row_form h.row
  obtain ⟨n, hn⟩ : ∃ n, n = P.length := ⟨_, rfl⟩
  rw [← hn] at hraw hm H0
  have HN := Lib.hid hn
  have HBB := Lib.hid hb
  rw [← hn]
  clear hW0 hb0 h hu hn hb
  by_cases hmerge : e.kind = 1 ∧ ∃ (Q : List EvP) (f : Ev) (x : Value), P = Q ++ [(f, x)] ∧ f.kind = 1
  · obtain ⟨hk, Q, f, x, hP, hf⟩ := hmerge
    have hkb : (e.kind == 1) = true := by simp [hk]
    have hadd : addL (P.map (·.1)) e = Q.map (·.1) ++ [{ f with bytes := f.bytes ++ e.bytes }] := by
      rw [hP, List.map_append]
      exact addL_data _ _ _ hf hk
    rw [hadd]
    obtain ⟨q, hq⟩ : ∃ q, q = Q.length := ⟨_, rfl⟩
    obtain rfl : n = q + 1 := by rw [HN.out, hP, hq]; simp
    have hrb : ∀ y ∈ Q, RB s W0 y.2 y.1.bytes := fun y hy => H0.out.rb y (by rw [hP]; simp [hy])
    have hfx := H0.out.rb (f, x) (by rw [hP]; simp)
    have hfl := HBB.out (f, x) (by rw [hP]; simp)
    obtain ⟨g, hva, hgl, hqv, hcell⟩ : ∃ g, va = some ⟨g, 0, none⟩ ∧ g < W0.heap.size ∧ q + 1 ≤ vc ∧ ∀ j, j < (q + 1) * 4 → W0.cell? ⟨g, j, none⟩ = (evC P)[j]? := by
      rcases hraw.2 with ⟨h1, h2⟩ | ⟨g, cap, cur, h1, hg, hgb, hcap, _⟩
      · omega
      · injection h1 with h1 _ h3
        subst h1 h3
        exact ⟨g, rfl, lt_of_block hgb, hcap, fun j hj => hraw.cellAt j hj⟩
    subst hva
    obtain ⟨a0, a1, a2, a3⟩ := evC_get P q (f, x) (by rw [hP, hq]; simp)
    have c0 := (hcell (q * 4) (by omega)).trans a0
    have c1 := (hcell (q * 4 + 1) (by omega)).trans a1
    have c2 := (hcell (q * 4 + 2) (by omega)).trans a2
    have c3 := (hcell (q * 4 + 3) (by omega)).trans a3
    simp only at c0 c1 c2 c3
    rw [hf] at c0
    rw [hk] at e0
    have hnews : ∀ (W : World), Below W0.heap.size W0 W → ∀ (j : Nat) (y : Value), (evC Q)[j]? = some y → W.cell? ((⟨g, 0, none⟩ : Addr).add j) = some y := fun W hW j y hy => by
      have hj : j < (evC Q).length := (List.getElem?_eq_some_iff.1 hy).1
      rw [evC_length, ← hq] at hj
      have e' : (⟨g, 0, none⟩ : Addr).add j = ⟨g, j, none⟩ := by unfold Addr.add; split <;> simp_all
      rw [e', hW.cell (p := ⟨g, j, none⟩) hgl, hcell j (by omega), hP, evC_append, List.getElem?_append_left (by rw [evC_length, ← hq]; exact hj)]
      exact hy
    have hone : ∀ y ∈ evC Q, y.oneCell' = true := fun y hy => by
      unfold evC at hy
      obtain ⟨p, hp, hy⟩ := List.mem_flatMap.1 hy
      simp at hy
      rcases hy with rfl | rfl | rfl | rfl
      · rfl
      · rfl
      · rfl
      · obtain ⟨a, c, e'⟩ := (hrb p hp).slice
        rw [e']; rfl
    obtain ⟨xa, xl, hxe⟩ := hfx.slice
    have hxe : x = .slice xa f.bytes.length xl := hxe
    subst hxe
    obtain ⟨fl, hfl2⟩ : ∃ fl, fl = f.bytes.length := ⟨_, rfl⟩
    have HFX := Lib.hid hfx
    rw [← hfl2] at c3 HFX
    obtain ⟨W1, hW1⟩ : ∃ W, W = W0.alloc (.cells #[.int .i64 1, .int .u8 f.code, .int .u8 f.option, .slice xa fl xl] 32) := ⟨_, rfl⟩
    have hb1 := below_alloc W0 (.cells #[.int .i64 1, .int .u8 f.code, .int .u8 f.option, .slice xa fl xl] 32)
    have hblk : W1.heap[W0.heap.size]? = some (.cells #[.int .i64 1, .int .u8 f.code, .int .u8 f.option, .slice xa fl xl] 32 (0, 0)) := by rw [hW1]; exact heap_alloc_new W0 _
    have hz1 : W1.heap.size = W0.heap.size + 1 := by rw [hW1, World.size_alloc]
    rw [← hW1] at hb1
    have hlt0 : w.heap.size < W0.heap.size := World.block_lt_of_cell? W0 _ e3
    have k3 := (hb1.cell (p := ⟨w.heap.size, 3, none⟩) hlt0).trans e3
    have b3 : W1.cell? ⟨W0.heap.size, 3, none⟩ = some (.slice xa fl xl) := by simp [World.cell?, hblk]
    have hr8 := rows8_two W1 (.slice xa fl xl) (.slice ua ul uc) f.bytes e.bytes (HFX.out.below hb1).row (HU0.out.below hb1).row
    have HW1 := Lib.hid hW1.symm
    have HB1 := Lib.hid hb1
    have HBL := Lib.hid hblk
    have HZ1 := Lib.hid hz1
    have HR8 := Lib.hid hr8
    have HRB := Lib.hid hrb
    have HNW := Lib.hid hnews
    have HON := Lib.hid hone
    have HQ := Lib.hid hq
    have HF := Lib.hid hf
    have HFL := Lib.hid hfl2
    have hq2 : q ≤ 50000 := by omega
    have hqi : (q : Int) ≤ vc := by omega
    have hlf : f.bytes.length + e.bytes.length ≤ 200000 := by have h2 : f.bytes.length ≤ 100000 := hfl; omega
    have HLF := Lib.hid hlf
    clear hadd hP hq hrb hfx hfl hcell a0 a1 a2 a3 hf hk hnews hone hW1 hb1 hblk hz1 hr8 hfl2 hraw hlf
    go_enter Try.func67, Try.ntmps67
    go_upto_region 1 with fail
    rw [HW0.out]
    go_upto_region 4 with fail
    rw [HW1.out]
    go_wp2_with fail
    refine (rjoin_any _ [f.bytes, e.bytes] _ HR8.out (by simp) (by have := HLF.out; simp; omega)).mono ?_
    rintro e' W3 ⟨p, rfl, R, b3'⟩
    have hB13 : Below W1.heap.size W1 W3 := (below_alloc W1 _).trans (b3'.mono (by simp))
    have hbx := (hB13.block W0.heap.size (by rw [HZ1.out]; omega)).trans HBL.out
    have hB03 : Below W0.heap.size W0 W3 := HB1.out.trans (hB13.mono (by rw [HZ1.out]; omega))
    have hflat : [f.bytes, e.bytes].flatten = f.bytes ++ e.bytes := by simp
    rw [hflat] at R
    obtain ⟨pa, pc, rfl⟩ := R.slice
    obtain ⟨pl, hpl⟩ : ∃ pl, pl = (f.bytes ++ e.bytes).length := ⟨_, rfl⟩
    rw [← hpl] at R ⊢
    have HPL := Lib.hid hpl
    have hz3 : W0.heap.size + 1 ≤ W3.heap.size := by have := hB13.size; rw [HZ1.out] at this; exact this
    obtain ⟨W4, hW4⟩ : ∃ W, W = W3.setCell ⟨W0.heap.size, 3, none⟩ (.slice pa pl pc) := ⟨_, rfl⟩
    have hz4 : W4.heap.size = W3.heap.size := by rw [hW4]; simp
    have hbx4 : W4.heap[W0.heap.size]? = some (.cells #[.int .i64 1, .int .u8 f.code, .int .u8 f.option, .slice pa pl pc] 32 (0, 0)) := by rw [hW4]; exact heap_set hbx 3 _
    have hB04 : Below W0.heap.size W0 W4 := by rw [hW4]; exact hB03.setCell (p := ⟨W0.heap.size, 3, none⟩) (Nat.le_refl _) _
    have hR3 : OwnBytes (W0.heap.size + 2) W3 (.slice pa pl pc) (f.bytes ++ e.bytes) := R.lower (by rw [World.size_alloc, HZ1.out]; omega)
    have hR4 : OwnBytes s W4 (.slice pa pl pc) (f.bytes ++ e.bytes) := (hR3.keep fun k hk _ => by rw [hW4]; exact Below.heap_setCell _ _ _ _ (by show k ≠ W0.heap.size; omega)).lower (by omega)
    have hb4 := below_alloc W4 (.cells #[] 32)
    have hrow5 := rev0 (s := s) (w := W4) (by omega)
    obtain ⟨W5, hW5⟩ : ∃ W, W = W4.alloc (.cells #[] 32) := ⟨_, rfl⟩
    rw [← hW5] at hb4 hrow5
    rw [hz4] at hrow5
    have hbx5 := (hb4.block W0.heap.size (by omega)).trans hbx4
    have hB05 : Below W0.heap.size W0 W5 := hB04.trans (hb4.mono (by omega))
    have hR5 : OwnBytes s W5 (.slice pa pl pc) (f.bytes ++ e.bytes) := hR4.below hb4
    have hz5 : W5.heap.size = W3.heap.size + 1 := by rw [hW5, World.size_alloc, hz4]
    have HW5 : Hid ((W3.setCell ⟨W0.heap.size, 3, none⟩ (.slice pa pl pc)).alloc (.cells #[] 32) = W5) := Lib.hid (by rw [hW5, hW4])
    have HBX5 := Lib.hid hbx5
    have HRP5 : Hid (RB s W5 (.slice pa pl pc) (f.bytes ++ e.bytes)) := Lib.hid (.inr hR5)
    have HROW5 := Lib.hid hrow5
    have HB05 := Lib.hid hB05
    have HNW5 := Lib.hid (HNW.out W5 hB05)
    have HZ5 := Lib.hid hz5
    have HZ3 := Lib.hid hz3
    have hlen5 : (evC Q).length = q * 4 := by rw [evC_length, HQ.out]
    have hs5 : s ≤ W5.heap.size := by omega
    have y0 : W3.cell? ⟨W0.heap.size, 3, none⟩ = some (.slice xa fl xl) := by simp [World.cell?, hbx]
    have y1 : W3.frozen? ⟨W0.heap.size, 3, none⟩ = false := by simp [World.frozen?, hbx]
    clear hB13 hbx hB03 hflat R hpl hW4 hz4 hbx4 hB04 hR3 hR4 hR5 hb4 hW5 hB05 hbx5 hz5 b3' hz3 k3 b3
    go_upto_region 6 with fail
    rw [HW5.out]
    go_upto_region 7 with (at_builtin; refine wpList_append_own _ rfl _ _ 33 rfl s 32 i0 (.agg #[.int .i64 0, .int .u8 0, .int .u8 0, .slice none 0 0]) 4 40 Try.underlying33 hi hz0 hz1 hz2 rfl (by decide) _ _ _ rfl hrow5 ⟨g, 0, none⟩ q vc (evC Q) rfl hlen5 HNW5.out HON.out (by unfold maxLen; omega) (by omega) hs5 ?_; intro v6 w6 hown6 hgrow6 _; have HG6 : Hid (W5.grownBy w6 (Value.ownBlock (.slice (some ⟨W3.heap.size, 0, none⟩) 0 0))) := Lib.hid hgrow6; have HO6 : Hid (w6.ownsRow s 32 4 v6 Q.length (evC Q)) := Lib.hid (by have := hown6; rw [Nat.zero_add, List.nil_append, HQ.out] at this; exact this); clear hown6 hgrow6)
    have hbx6 := (HG6.out.block W0.heap.size (by have := HZ5.out; have := HZ3.out; omega) (by intro e'; have := HZ3.out; injection e' with e'; have e' : W0.heap.size = W3.heap.size := e'; omega)).trans HBX5.out
    have hrq6 : ROwn s w6 v6 Q := ⟨HO6.out, fun y hy => ((HRB.out y hy).below HB05.out).grown HROW5.out (Nat.le_refl _) HG6.out⟩
    have hrp6 := HRP5.out.grown HROW5.out (Nat.le_refl _) HG6.out
    have hs6 : s ≤ w6.heap.size := by have := HG6.out.size; omega
    have hB6 : Below s w w6 := (HB0.out.trans (HB05.out.mono hs0)).grown HG6.out (by omega) (row_first HROW5.out)
    have hbA := below_alloc w6 (.cells #[.int .i64 1, .int .u8 f.code, .int .u8 f.option, .slice pa pl pc] 32)
    have hrqA := hrq6.below hbA
    have hrpA := hrp6.below hbA
    have hraw := hrq6.row.alloc (.cells #[.int .i64 1, .int .u8 f.code, .int .u8 f.option, .slice pa pl pc] 32)
    rw [← HQ.out] at hraw
    have HRQ := Lib.hid hrqA
    have HRP := Lib.hid hrpA
    have HB6 := Lib.hid (hB6.trans (hbA.mono hs6))
    have HCL6 := Lib.hid (rev_cl w6 1 f.code f.option (.slice pa pl pc))
    have z0 : w6.cell? ⟨W0.heap.size, 0, none⟩ = some (.int .i64 1) := by simp [World.cell?, hbx6]
    have z1 : w6.cell? ⟨W0.heap.size, 1, none⟩ = some (.int .u8 f.code) := by simp [World.cell?, hbx6]
    have z2 : w6.cell? ⟨W0.heap.size, 2, none⟩ = some (.int .u8 f.option) := by simp [World.cell?, hbx6]
    have z3 : w6.cell? ⟨W0.heap.size, 3, none⟩ = some (.slice pa pl pc) := by simp [World.cell?, hbx6]
    have HRF := Lib.hid (row_first hrq6.row)
    clear hbx6 hrq6 hrp6 hB6 hbA hrqA hrpA hrow5
    go_wp2_with (at_builtin; refine wpList_append_own _ rfl _ _ 33 rfl s 32 i0 (.agg #[.int .i64 0, .int .u8 0, .int .u8 0, .slice none 0 0]) 4 40 Try.underlying33 hi hz0 hz1 hz2 rfl (by decide) _ _ _ rfl hraw ⟨w6.heap.size, 0, none⟩ 1 1 [.int .i64 1, .int .u8 f.code, .int .u8 f.option, .slice pa pl pc] rfl rfl HCL6.out (by simp [Value.oneCell']) (by unfold maxLen; omega) (by omega) (by rw [World.size_alloc]; omega) ?_; intro v7 w7 hown7 hgrow7 _; have HG7 : Hid ((w6.alloc (.cells #[.int .i64 1, .int .u8 f.code, .int .u8 f.option, .slice pa pl pc] 32)).grownBy w7 v6.ownBlock) := Lib.hid hgrow7; have HO7 := Lib.hid hown7; clear hgrow7 hown7)
    go_ret
    have hfin := HRQ.out.more (e := { f with bytes := f.bytes ++ e.bytes }) HRP.out (by rw [← HQ.out, HF.out]; exact HO7.out) HG7.out
    exact ⟨_, _, rfl, hfin, by rw [List.map_append]; rfl, HB6.out.grown HG7.out (by rw [World.size_alloc]; omega) HRF.out⟩
  · have hadd : addL (P.map (·.1)) e = P.map (·.1) ++ [e] := by
      rcases List.eq_nil_or_concat P with rfl | ⟨Q, ⟨f, x⟩, rfl⟩
      · rfl
      · rw [List.concat_eq_append, List.map_append]
        exact addL_other _ _ _ fun hk => hmerge ⟨hk.2, Q, f, x, by rw [List.concat_eq_append], hk.1⟩
    have HADD := Lib.hid hadd
    rw [hadd]
    have hcase : (e.kind == 1) = false ∨ ((e.kind == 1) = true ∧ P = []) ∨ ((e.kind == 1) = true ∧ ∃ (Q : List EvP) (f : Ev) (x : Value), P = Q ++ [(f, x)] ∧ (f.kind == 1) = false) := by
      by_cases hk : e.kind = 1
      · right
        rcases List.eq_nil_or_concat P with hP | ⟨Q, ⟨f, x⟩, hP⟩
        · exact .inl ⟨by simp [hk], hP⟩
        · rw [List.concat_eq_append] at hP
          refine .inr ⟨by simp [hk], Q, f, x, hP, ?_⟩
          simp
          exact fun hf => hmerge ⟨hk, Q, f, x, hP, hf⟩
      · exact .inl (by simpa using hk)
    clear hadd hmerge
    rcases hcase with hk | ⟨hk, hP⟩ | ⟨hk, Q, f, x, hP, hf⟩
    · go_enter Try.func67, Try.ntmps67
      go_upto_region 1 with fail
      rw [HW0.out]
      go_wp2_with (at_builtin; refine wpList_append_own _ rfl _ _ 33 rfl s 32 i0 (.agg #[.int .i64 0, .int .u8 0, .int .u8 0, .slice none 0 0]) 4 40 Try.underlying33 hi hz0 hz1 hz2 rfl (by decide) _ _ _ rfl (hraw.alloc _) ⟨W0.heap.size, 0, none⟩ 1 1 [.int .i64 e.kind, .int .u8 e.code, .int .u8 e.option, .slice ua ul uc] rfl rfl HCL.out (by simp [Value.oneCell']) (by unfold maxLen; omega) (by omega) (by rw [World.size_alloc]; omega) ?_; intro v' w5 hown' hgrow _)
      go_ret
      have hbA := below_alloc W0 (.cells #[.int .i64 e.kind, .int .u8 e.code, .int .u8 e.option, .slice ua ul uc] 32)
      have hfin := (H0.out.below hbA).more (e := e) (HU0.out.below hbA) (by rw [← HN.out]; exact hown') (show (W0.alloc _).grownBy w5 (Value.ownBlock (.slice va n vc)) from hgrow)
      exact ⟨_, _, rfl, hfin, by rw [List.map_append]; rfl, (HB0.out.trans (hbA.mono hs0)).grown hgrow (by rw [World.size_alloc]; omega) (row_first H0.out.row)⟩
    · have hn0 : n = 0 := by rw [HN.out, hP]; rfl
      subst hn0
      clear hP
      go_enter Try.func67, Try.ntmps67
      go_upto_region 1 with fail
      rw [HW0.out]
      go_wp2_with (at_builtin; refine wpList_append_own _ rfl _ _ 33 rfl s 32 i0 (.agg #[.int .i64 0, .int .u8 0, .int .u8 0, .slice none 0 0]) 4 40 Try.underlying33 hi hz0 hz1 hz2 rfl (by decide) _ _ _ rfl (hraw.alloc _) ⟨W0.heap.size, 0, none⟩ 1 1 [.int .i64 e.kind, .int .u8 e.code, .int .u8 e.option, .slice ua ul uc] rfl rfl HCL.out (by simp [Value.oneCell']) (by unfold maxLen; omega) (by omega) (by rw [World.size_alloc]; omega) ?_; intro v' w5 hown' hgrow _)
      go_ret
      have hbA := below_alloc W0 (.cells #[.int .i64 e.kind, .int .u8 e.code, .int .u8 e.option, .slice ua ul uc] 32)
      have hfin := (H0.out.below hbA).more (e := e) (HU0.out.below hbA) (by rw [← HN.out]; exact hown') (show (W0.alloc _).grownBy w5 (Value.ownBlock (.slice va 0 vc)) from hgrow)
      exact ⟨_, _, rfl, hfin, by rw [List.map_append]; rfl, (HB0.out.trans (hbA.mono hs0)).grown hgrow (by rw [World.size_alloc]; omega) (row_first H0.out.row)⟩
    · obtain rfl : n = Q.length + 1 := by rw [HN.out, hP]; simp
      obtain ⟨q, hq⟩ : ∃ q, q = Q.length := ⟨_, rfl⟩
      have c0 : ∃ g, va = some ⟨g, 0, none⟩ ∧ W0.cell? ⟨g, q * 4, none⟩ = some (.int .i64 f.kind) := by
        have hev := H0.out.evsAt
        obtain ⟨a', c', e', hrow⟩ := hev
        injection e' with e1' e2' e3'
        rcases hraw.2 with ⟨h1, h2⟩ | ⟨g, cap, cur, h1, hg, hgb, _⟩
        · omega
        · injection h1 with h1 _ _
          refine ⟨g, h1, ?_⟩
          subst h1
          have := (evC_get P q (f, x) (by rw [hP, hq]; simp)).1
          rw [hraw.cellAt _ (by omega)]
          exact this
      obtain ⟨g, rfl, c0⟩ := c0
      rw [← hq] at hraw hm HN H0 ⊢
      clear hP hq
      go_enter Try.func67, Try.ntmps67
      go_upto_region 1 with fail
      rw [HW0.out]
      go_wp2_with (at_builtin; refine wpList_append_own _ rfl _ _ 33 rfl s 32 i0 (.agg #[.int .i64 0, .int .u8 0, .int .u8 0, .slice none 0 0]) 4 40 Try.underlying33 hi hz0 hz1 hz2 rfl (by decide) _ _ _ rfl (hraw.alloc _) ⟨W0.heap.size, 0, none⟩ 1 1 [.int .i64 e.kind, .int .u8 e.code, .int .u8 e.option, .slice ua ul uc] rfl rfl HCL.out (by simp [Value.oneCell']) (by unfold maxLen; omega) (by omega) (by rw [World.size_alloc]; omega) ?_; intro v' w5 hown' hgrow _)
      go_ret
      have hbA := below_alloc W0 (.cells #[.int .i64 e.kind, .int .u8 e.code, .int .u8 e.option, .slice ua ul uc] 32)
      have hfin := (H0.out.below hbA).more (e := e) (HU0.out.below hbA) (by rw [← HN.out]; exact hown') (show (W0.alloc _).grownBy w5 (Value.ownBlock (.slice (some ⟨g, 0, none⟩) (q + 1) vc)) from hgrow)
      exact ⟨_, _, rfl, hfin, by rw [List.map_append]; rfl, (HB0.out.trans (hbA.mono hs0)).grown hgrow (by rw [World.size_alloc]; omega) (row_first H0.out.row)⟩
end Go.Proofs.Ytimidoaafllnkaa.Iac
