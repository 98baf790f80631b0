/-
  The reference's Parse.
-/
import Derived.Test.YtfijcdidcnfadaaHeadIB
namespace Go.Proofs.Ytfijcdidcnfadaa.Head
open Go.RowKit Base Iac
set_option linter.unusedVariables false

set_option maxRecDepth 100000 in
set_option maxHeartbeats 4000000 in
theorem rparse_short (v : Value) (L : List Int) (w : World) (hr : RowOf .u8 w v L) (hl : L.length < 5) :
    Calls Try.prog 17 #[v] w fun e w' => e = .returned (.tuple #[.agg (rhA hd0), .slice none 0 0, .int .i64 20]) ∧ Below w.heap.size w w' := by
  obtain ⟨a, cap, rfl, hrow⟩ := hr
  obtain ⟨n, hn⟩ : ∃ n, n = L.length := ⟨_, rfl⟩
  rw [← hn] at hl ⊢
  have hz := (zero_of_info info_rh).1
  have t : (n : Int) < 5 := by omega
  have HN := Lib.hid (heap_alloc_new w (.cells (rhA hd0) 31))
  have HB := Lib.hid (below_alloc w (.cells (rhA hd0) 31))
  unfold rhA hd0 at HN HB ⊢
  clear hrow hn hl
  go_enter Try.func17, Try.ntmps17
  go_wp2_with fail
  refine bodyPost_ret (results_row_tmp2 rfl _ _ w.heap.size _ rfl (load_rh HN.out rfl)) rfl ?_
  exact ⟨rfl, HB.out⟩
set_option maxRecDepth 100000 in
set_option maxHeartbeats 4000000 in
theorem rparse_form (v : Value) (L : List Int) (w : World) (hr : RowOf .u8 w v L) (hl : 5 ≤ L.length) (hx : (8 : Int) < L[0]?.getD 0) (hx1 : L[0]?.getD 0 ≤ 255) :
    Calls Try.prog 17 #[v] w fun e w' => e = .returned (.tuple #[.agg (rhA hd0), .slice none 0 0, .int .i64 21]) ∧ Below w.heap.size w w' := by
  obtain ⟨a, cap, rfl, hrow⟩ := hr
  obtain ⟨b, off, ha, hc⟩ := hrow (by intro e; rw [e] at hl; simp at hl)
  subst ha
  have c0 := hc 0 (by omega)
  obtain ⟨x, hx'⟩ : ∃ x, x = L[0]?.getD 0 := ⟨_, rfl⟩
  rw [← hx'] at c0 hx hx1
  have HN := Lib.hid (heap_alloc_new w (.cells (rhA hd0) 31))
  have HB := Lib.hid (below_alloc w (.cells (rhA hd0) 31))
  have c0 := (HB.out.cell (World.block_lt_of_cell? w _ c0)).trans c0
  simp only [Nat.add_zero] at c0
  obtain ⟨n, hn⟩ : ∃ n, n = L.length := ⟨_, rfl⟩
  rw [← hn] at hl ⊢
  have hz := (zero_of_info info_rh).1
  have t : (5 : Int) ≤ (n : Int) := by omega
  have i0 : (0 : Int) < (n : Int) := by omega
  unfold rhA hd0 at HN HB c0 ⊢
  clear hrow hn hl hc hx'
  go_enter Try.func17, Try.ntmps17
  go_wp2_with fail
  refine bodyPost_ret (results_row_tmp2 rfl _ _ w.heap.size _ rfl (load_rh HN.out rfl)) rfl ?_
  exact ⟨rfl, HB.out⟩
set_option maxRecDepth 100000 in
set_option maxHeartbeats 4000000 in
theorem rparse_ok (v : Value) (L : List Int) (w : World) (hr : CutRow w v L) (hl : 5 ≤ L.length) (hm : L.length ≤ 100000) (hby : ∀ x ∈ L, 0 ≤ x ∧ x < 256) (hx : L[0]?.getD 0 ≤ 8) :
    Calls Try.prog 17 #[v] w fun e w' => ∃ p, e = .returned (.tuple #[.agg (rhA (headOf L)), p, .int .i64 0]) ∧ RowOf .u8 w' p (L.drop 5) ∧ Below w.heap.size w w' := by
  obtain ⟨hr, a, cap, rfl, hcap, hnil⟩ := hr
  have hrr := hr
  obtain ⟨a', cap', e', hrow⟩ := hr
  injection e' with e1 e2 e3
  subst e1 e3
  obtain ⟨b, off, rfl, hc⟩ := hrow (by intro e; rw [e] at hl; simp at hl)
  unfold headOf
  have bd : ∀ i, i < L.length → 0 ≤ L[i]?.getD 0 ∧ L[i]?.getD 0 ≤ 255 := fun i hi => by
    have := hby (L[i]?.getD 0) (by rw [List.getElem?_eq_getElem hi]; exact List.getElem_mem hi)
    omega
  have c0 := hc 0 (by omega)
  have c1 := hc 1 (by omega)
  have c2 := hc 2 (by omega)
  have c3 := hc 3 (by omega)
  have c4 := hc 4 (by omega)
  have d0 := bd 0 (by omega)
  have d1 := bd 1 (by omega)
  have d2 := bd 2 (by omega)
  have d3 := bd 3 (by omega)
  have d4 := bd 4 (by omega)
  obtain ⟨x0, h0⟩ : ∃ x, x = L[0]?.getD 0 := ⟨_, rfl⟩
  obtain ⟨x1, h1⟩ : ∃ x, x = L[1]?.getD 0 := ⟨_, rfl⟩
  obtain ⟨x2, h2⟩ : ∃ x, x = L[2]?.getD 0 := ⟨_, rfl⟩
  obtain ⟨x3, h3⟩ : ∃ x, x = L[3]?.getD 0 := ⟨_, rfl⟩
  obtain ⟨x4, h4⟩ : ∃ x, x = L[4]?.getD 0 := ⟨_, rfl⟩
  rw [← h0] at c0 d0 hx ⊢
  rw [← h1] at c1 d1 ⊢
  rw [← h2] at c2 d2 ⊢
  rw [← h3] at c3 d3 ⊢
  rw [← h4] at c4 d4 ⊢
  have hn0 := heap_alloc_new w (.cells (rhA hd0) 31)
  have hb0 := below_alloc w (.cells (rhA hd0) 31)
  obtain ⟨W1, hW1⟩ : ∃ W1, W1 = w.alloc (.cells (rhA hd0) 31) := ⟨_, rfl⟩
  rw [← hW1] at hn0 hb0
  have HB := Lib.hid hb0
  have HN := Lib.hid hn0
  have c0 := (HB.out.cell (World.block_lt_of_cell? w _ c0)).trans c0
  have c1 := (HB.out.cell (World.block_lt_of_cell? w _ c1)).trans c1
  have c2 := (HB.out.cell (World.block_lt_of_cell? w _ c2)).trans c2
  have c3 := (HB.out.cell (World.block_lt_of_cell? w _ c3)).trans c3
  have c4 := (HB.out.cell (World.block_lt_of_cell? w _ c4)).trans c4
  simp only [Nat.add_zero] at c0
  have HR := Lib.hid hrr
  have HBL : Hid (b < w.heap.size) := Lib.hid (World.block_lt_of_cell? w _ (hc 0 (by omega)))
  obtain ⟨g, hg⟩ : ∃ g, g = w.heap.size := ⟨_, rfl⟩
  rw [← hg] at hn0
  obtain ⟨q0, q1, q2, q3⟩ := boxed4 hn0
  have f0 : ∀ o, W1.frozen? ⟨g, o, none⟩ = false := fun o => by simp [World.frozen?, hn0]
  have f00 := f0 0
  have f01 := f0 1
  have f02 := f0 2
  have f03 := f0 3
  obtain ⟨n, hn⟩ : ∃ n, n = L.length := ⟨_, rfl⟩
  have HLN := Lib.hid hn
  rw [← hn] at hl hcap hm HR ⊢
  have hz := (zero_of_info info_rh).1
  have t : (5 : Int) ≤ (n : Int) := by omega
  have i0 : (0 : Int) < (n : Int) := by omega
  have i1 : (1 : Int) < (n : Int) := by omega
  have i2 : (2 : Int) < (n : Int) := by omega
  have i3 : (3 : Int) < (n : Int) := by omega
  have i4 : (4 : Int) < (n : Int) := by omega
  have n0 : 0 < n := by omega
  have n1 : 1 < n := by omega
  have n2 : 2 < n := by omega
  have n3 : 3 < n := by omega
  have n4 : 4 < n := by omega
  have HW1 := Lib.hid hW1.symm
  have HG := Lib.hid hg.symm
  have HGE : Hid (w.heap.size ≤ g) := Lib.hid (by omega)
  obtain ⟨a0, a1⟩ := d0
  obtain ⟨a2, a3⟩ := d1
  obtain ⟨a4, a5⟩ := d2
  obtain ⟨a6, a7⟩ := d3
  obtain ⟨a8, a9⟩ := d4
  have kd : ¬ cap = 4 := by omega
  have k1 : (5 : Int) ≤ (cap : Int) := by omega
  rw [← hg] at HN
  unfold rhA hd0 at HW1
  unfold rhA
  simp only at HW1 ⊢
  clear hrow hn hc h0 h1 h2 h3 h4 bd hby hrr e2 hW1 hnil f0 hn0 hb0 hg
  have HS : Hid (∀ p q r s : Value, (((((W1.drew.setCell ⟨g, 0, none⟩ p).setCell ⟨g, 1, none⟩ q).setCell ⟨g, 2, none⟩ r).setCell ⟨g, 3, none⟩ s)).cell? ⟨b, off, none⟩ = some (.int .u8 x0) ∧ (((((W1.drew.setCell ⟨g, 0, none⟩ p).setCell ⟨g, 1, none⟩ q).setCell ⟨g, 2, none⟩ r).setCell ⟨g, 3, none⟩ s)).cell? ⟨b, off + 1, none⟩ = some (.int .u8 x1) ∧ (((((W1.drew.setCell ⟨g, 0, none⟩ p).setCell ⟨g, 1, none⟩ q).setCell ⟨g, 2, none⟩ r).setCell ⟨g, 3, none⟩ s)).cell? ⟨b, off + 2, none⟩ = some (.int .u8 x2) ∧ (((((W1.drew.setCell ⟨g, 0, none⟩ p).setCell ⟨g, 1, none⟩ q).setCell ⟨g, 2, none⟩ r).setCell ⟨g, 3, none⟩ s)).cell? ⟨b, off + 3, none⟩ = some (.int .u8 x3) ∧ (((((W1.drew.setCell ⟨g, 0, none⟩ p).setCell ⟨g, 1, none⟩ q).setCell ⟨g, 2, none⟩ r).setCell ⟨g, 3, none⟩ s)).cell? ⟨b, off + 4, none⟩ = some (.int .u8 x4)) := Lib.hid (by
    intro p q r s
    have hne : b ≠ g := by have := HBL.out; have := HGE.out; omega
    have hh : ∀ o x, W1.cell? ⟨b, o, none⟩ = some x → (((((W1.drew.setCell ⟨g, 0, none⟩ p).setCell ⟨g, 1, none⟩ q).setCell ⟨g, 2, none⟩ r).setCell ⟨g, 3, none⟩ s)).cell? ⟨b, o, none⟩ = some x := by
      intro o x hx
      have hb : (((((W1.drew.setCell ⟨g, 0, none⟩ p).setCell ⟨g, 1, none⟩ q).setCell ⟨g, 2, none⟩ r).setCell ⟨g, 3, none⟩ s)).heap[b]? = W1.heap[b]? := by
        rw [Below.heap_setCell _ _ _ _ hne, Below.heap_setCell _ _ _ _ hne, Below.heap_setCell _ _ _ _ hne, Below.heap_setCell _ _ _ _ hne]
        rfl
      rw [← hx]
      simp only [World.cell?]
      rw [hb]
    exact ⟨hh _ _ c0, hh _ _ c1, hh _ _ c2, hh _ _ c3, hh _ _ c4⟩)
  have HN4 : Hid (W1.heap[g]? = some (.cells #[.int .u8 0, .int .u8 0, .int .u8 0, .int .i64 0] 31 (0, 0))) := Lib.hid HN.out
  have HV : Hid (IntKind.i64.wrap x3 = x3 ∧ IntKind.i64.wrap x4 = x4 ∧ IntKind.i64.wrap (256 * x3) = 256 * x3 ∧ IntKind.i64.wrap (256 * x3 + x4) = x3 * 256 + x4) := Lib.hid ⟨IntWalk.i64_in _ (by omega), IntWalk.i64_in _ (by omega), IntWalk.i64_in _ (by omega), by rw [IntWalk.i64_in _ (by omega)]; omega⟩
  rcases Nat.lt_or_ge 5 cap with h5 | h5
  · have k3 : ¬ cap = 5 := by omega
    have k2 : (5 : Int) < (cap : Int) := by omega
    have HRD := Lib.hid (RowOf.dropTo HR.out 5 hl (cap - 5))
    go_enter Try.func17, Try.ntmps17
    go_upto_region 1 with fail
    rw [HW1.out, HG.out]
    go_upto_region 5 with fail
    -- REGION
    change Code.wp _ (Code.region 5 rp5 true) _ _ _
    refine wp_region_held_drew (S := (fun W => W.cell? ⟨b, off, none⟩ = some (.int .u8 x0) ∧ W.cell? ⟨b, off + 1, none⟩ = some (.int .u8 x1) ∧ W.cell? ⟨b, off + 2, none⟩ = some (.int .u8 x2) ∧ W.cell? ⟨b, off + 3, none⟩ = some (.int .u8 x3) ∧ W.cell? ⟨b, off + 4, none⟩ = some (.int .u8 x4))) (by kernel_rfl) (⟨c0, c1, c2, c3, c4⟩) (fun hHeld => ?_)
    change wpAnyH _ .any rp5 _ _ 25 rp5_l0 _ _
    refine wpAnyH_take (i := 0) (oi := { dst := some 14, op := Op.move (Operand.tmp 0), type := 22, pos := "ref.go:20", after := #[], guard := none }) (v := ?_) (listed := rp5_l0) rp5_g0 rp5_nosel rp5_f0 rp5_r0 (fun _ _ _ h => h) (Or.inl ⟨by rfl, ?_⟩) (by assumption) ?_
    rotate_left
    focus (intro w hSw; (try dsimp only at hSw); go_simp; try (with_reducible rfl))
    try simp only [Act.put, List.setIfInBounds_toArray, List.set_cons_zero, List.set_cons_succ]
    refine wpAnyH_take (i := 1) (oi := { dst := some 15, op := Op.indexAddr 22 (Operand.tmp 14) (Operand.const (Value.int IntKind.i64 0)), type := 0, pos := "ref.go:20", after := #[{ on := 0, ground := Ground.data }], guard := none }) (v := ?_) (listed := rp5_l1) rp5_g1 rp5_nosel rp5_f1 rp5_r1 (fun _ _ _ h => h) (Or.inl ⟨by rfl, ?_⟩) (by assumption) ?_
    rotate_left
    focus (intro w hSw; (try dsimp only at hSw); go_simp; try (with_reducible rfl))
    try simp only [Act.put, List.setIfInBounds_toArray, List.set_cons_zero, List.set_cons_succ]
    refine wpAnyH_take (i := 2) (oi := { dst := some 16, op := Op.load 5 (Operand.tmp 15), type := 5, pos := "ref.go:20", after := #[{ on := 1, ground := Ground.data }], guard := none }) (v := ?_) (listed := rp5_l2) rp5_g2 rp5_nosel rp5_f2 rp5_r2 (fun _ _ _ h => h) (Or.inl ⟨by rfl, ?_⟩) (by assumption) ?_
    rotate_left
    focus (intro w hSw; (try dsimp only at hSw); go_simp; try (with_reducible rfl))
    try simp only [Act.put, List.setIfInBounds_toArray, List.set_cons_zero, List.set_cons_succ]
    refine wpAnyH_take (i := 3) (oi := { dst := some 17, op := Op.move (Operand.tmp 0), type := 22, pos := "ref.go:20", after := #[], guard := none }) (v := ?_) (listed := rp5_l3) rp5_g3 rp5_nosel rp5_f3 rp5_r3 (fun _ _ _ h => h) (Or.inl ⟨by rfl, ?_⟩) (by assumption) ?_
    rotate_left
    focus (intro w hSw; (try dsimp only at hSw); go_simp; try (with_reducible rfl))
    try simp only [Act.put, List.setIfInBounds_toArray, List.set_cons_zero, List.set_cons_succ]
    refine wpAnyH_take (i := 4) (oi := { dst := some 18, op := Op.indexAddr 22 (Operand.tmp 17) (Operand.const (Value.int IntKind.i64 1)), type := 0, pos := "ref.go:20", after := #[{ on := 3, ground := Ground.data }], guard := none }) (v := ?_) (listed := rp5_l4) rp5_g4 rp5_nosel rp5_f4 rp5_r4 (fun _ _ _ h => h) (Or.inl ⟨by rfl, ?_⟩) (by assumption) ?_
    rotate_left
    focus (intro w hSw; (try dsimp only at hSw); go_simp; try (with_reducible rfl))
    try simp only [Act.put, List.setIfInBounds_toArray, List.set_cons_zero, List.set_cons_succ]
    refine wpAnyH_take (i := 5) (oi := { dst := some 19, op := Op.load 5 (Operand.tmp 18), type := 5, pos := "ref.go:20", after := #[{ on := 4, ground := Ground.data }], guard := none }) (v := ?_) (listed := rp5_l5) rp5_g5 rp5_nosel rp5_f5 rp5_r5 (fun _ _ _ h => h) (Or.inl ⟨by rfl, ?_⟩) (by assumption) ?_
    rotate_left
    focus (intro w hSw; (try dsimp only at hSw); go_simp; try (with_reducible rfl))
    try simp only [Act.put, List.setIfInBounds_toArray, List.set_cons_zero, List.set_cons_succ]
    refine wpAnyH_take (i := 6) (oi := { dst := some 20, op := Op.move (Operand.tmp 0), type := 22, pos := "ref.go:20", after := #[], guard := none }) (v := ?_) (listed := rp5_l6) rp5_g6 rp5_nosel rp5_f6 rp5_r6 (fun _ _ _ h => h) (Or.inl ⟨by rfl, ?_⟩) (by assumption) ?_
    rotate_left
    focus (intro w hSw; (try dsimp only at hSw); go_simp; try (with_reducible rfl))
    try simp only [Act.put, List.setIfInBounds_toArray, List.set_cons_zero, List.set_cons_succ]
    refine wpAnyH_take (i := 7) (oi := { dst := some 21, op := Op.indexAddr 22 (Operand.tmp 20) (Operand.const (Value.int IntKind.i64 2)), type := 0, pos := "ref.go:20", after := #[{ on := 6, ground := Ground.data }], guard := none }) (v := ?_) (listed := rp5_l7) rp5_g7 rp5_nosel rp5_f7 rp5_r7 (fun _ _ _ h => h) (Or.inl ⟨by rfl, ?_⟩) (by assumption) ?_
    rotate_left
    focus (intro w hSw; (try dsimp only at hSw); go_simp; try (with_reducible rfl))
    try simp only [Act.put, List.setIfInBounds_toArray, List.set_cons_zero, List.set_cons_succ]
    refine wpAnyH_take (i := 8) (oi := { dst := some 22, op := Op.load 5 (Operand.tmp 21), type := 5, pos := "ref.go:20", after := #[{ on := 7, ground := Ground.data }], guard := none }) (v := ?_) (listed := rp5_l8) rp5_g8 rp5_nosel rp5_f8 rp5_r8 (fun _ _ _ h => h) (Or.inl ⟨by rfl, ?_⟩) (by assumption) ?_
    rotate_left
    focus (intro w hSw; (try dsimp only at hSw); go_simp; try (with_reducible rfl))
    try simp only [Act.put, List.setIfInBounds_toArray, List.set_cons_zero, List.set_cons_succ]
    refine wpAnyH_take (i := 9) (oi := { dst := some 23, op := Op.move (Operand.tmp 0), type := 22, pos := "ref.go:20", after := #[], guard := none }) (v := ?_) (listed := rp5_l9) rp5_g9 rp5_nosel rp5_f9 rp5_r9 (fun _ _ _ h => h) (Or.inl ⟨by rfl, ?_⟩) (by assumption) ?_
    rotate_left
    focus (intro w hSw; (try dsimp only at hSw); go_simp; try (with_reducible rfl))
    try simp only [Act.put, List.setIfInBounds_toArray, List.set_cons_zero, List.set_cons_succ]
    refine wpAnyH_take (i := 10) (oi := { dst := some 24, op := Op.indexAddr 22 (Operand.tmp 23) (Operand.const (Value.int IntKind.i64 3)), type := 0, pos := "ref.go:20", after := #[{ on := 9, ground := Ground.data }], guard := none }) (v := ?_) (listed := rp5_l10) rp5_g10 rp5_nosel rp5_f10 rp5_r10 (fun _ _ _ h => h) (Or.inl ⟨by rfl, ?_⟩) (by assumption) ?_
    rotate_left
    focus (intro w hSw; (try dsimp only at hSw); go_simp; try (with_reducible rfl))
    try simp only [Act.put, List.setIfInBounds_toArray, List.set_cons_zero, List.set_cons_succ]
    refine wpAnyH_take (i := 11) (oi := { dst := some 25, op := Op.load 5 (Operand.tmp 24), type := 5, pos := "ref.go:20", after := #[{ on := 10, ground := Ground.data }], guard := none }) (v := ?_) (listed := rp5_l11) rp5_g11 rp5_nosel rp5_f11 rp5_r11 (fun _ _ _ h => h) (Or.inl ⟨by rfl, ?_⟩) (by assumption) ?_
    rotate_left
    focus (intro w hSw; (try dsimp only at hSw); go_simp; try (with_reducible rfl))
    try simp only [Act.put, List.setIfInBounds_toArray, List.set_cons_zero, List.set_cons_succ]
    refine wpAnyH_take (i := 12) (oi := { dst := some 26, op := Op.convert 5 3 (Operand.tmp 25), type := 3, pos := "ref.go:20", after := #[{ on := 11, ground := Ground.data }], guard := none }) (v := ?_) (listed := rp5_l12) rp5_g12 rp5_nosel rp5_f12 rp5_r12 (fun _ _ _ h => h) (Or.inl ⟨by rfl, ?_⟩) (by assumption) ?_
    rotate_left
    focus (intro w hSw; (try dsimp only at hSw); go_simp; try (with_reducible rfl))
    try simp only [Act.put, List.setIfInBounds_toArray, List.set_cons_zero, List.set_cons_succ]
    refine wpAnyH_take (i := 13) (oi := { dst := some 27, op := Op.binOp BinOp.mul 3 (Operand.const (Value.int IntKind.i64 256)) (Operand.tmp 26) 3, type := 3, pos := "ref.go:20", after := #[{ on := 12, ground := Ground.data }], guard := none }) (v := ?_) (listed := rp5_l13) rp5_g13 rp5_nosel rp5_f13 rp5_r13 (fun _ _ _ h => h) (Or.inl ⟨by rfl, ?_⟩) (by assumption) ?_
    rotate_left
    focus (intro w hSw; (try dsimp only at hSw); go_simp; try (with_reducible rfl))
    try simp only [Act.put, List.setIfInBounds_toArray, List.set_cons_zero, List.set_cons_succ]
    refine wpAnyH_take (i := 14) (oi := { dst := some 28, op := Op.move (Operand.tmp 0), type := 22, pos := "ref.go:20", after := #[], guard := none }) (v := ?_) (listed := rp5_l14) rp5_g14 rp5_nosel rp5_f14 rp5_r14 (fun _ _ _ h => h) (Or.inl ⟨by rfl, ?_⟩) (by assumption) ?_
    rotate_left
    focus (intro w hSw; (try dsimp only at hSw); go_simp; try (with_reducible rfl))
    try simp only [Act.put, List.setIfInBounds_toArray, List.set_cons_zero, List.set_cons_succ]
    refine wpAnyH_take (i := 15) (oi := { dst := some 29, op := Op.indexAddr 22 (Operand.tmp 28) (Operand.const (Value.int IntKind.i64 4)), type := 0, pos := "ref.go:20", after := #[{ on := 14, ground := Ground.data }], guard := none }) (v := ?_) (listed := rp5_l15) rp5_g15 rp5_nosel rp5_f15 rp5_r15 (fun _ _ _ h => h) (Or.inl ⟨by rfl, ?_⟩) (by assumption) ?_
    rotate_left
    focus (intro w hSw; (try dsimp only at hSw); go_simp; try (with_reducible rfl))
    try simp only [Act.put, List.setIfInBounds_toArray, List.set_cons_zero, List.set_cons_succ]
    refine wpAnyH_take (i := 16) (oi := { dst := some 30, op := Op.load 5 (Operand.tmp 29), type := 5, pos := "ref.go:20", after := #[{ on := 15, ground := Ground.data }], guard := none }) (v := ?_) (listed := rp5_l16) rp5_g16 rp5_nosel rp5_f16 rp5_r16 (fun _ _ _ h => h) (Or.inl ⟨by rfl, ?_⟩) (by assumption) ?_
    rotate_left
    focus (intro w hSw; (try dsimp only at hSw); go_simp; try (with_reducible rfl))
    try simp only [Act.put, List.setIfInBounds_toArray, List.set_cons_zero, List.set_cons_succ]
    refine wpAnyH_take (i := 17) (oi := { dst := some 31, op := Op.convert 5 3 (Operand.tmp 30), type := 3, pos := "ref.go:20", after := #[{ on := 16, ground := Ground.data }], guard := none }) (v := ?_) (listed := rp5_l17) rp5_g17 rp5_nosel rp5_f17 rp5_r17 (fun _ _ _ h => h) (Or.inl ⟨by rfl, ?_⟩) (by assumption) ?_
    rotate_left
    focus (intro w hSw; (try dsimp only at hSw); go_simp; try (with_reducible rfl))
    try simp only [Act.put, List.setIfInBounds_toArray, List.set_cons_zero, List.set_cons_succ]
    refine wpAnyH_take (i := 18) (oi := { dst := some 32, op := Op.binOp BinOp.add 3 (Operand.tmp 27) (Operand.tmp 31) 3, type := 3, pos := "ref.go:20", after := #[{ on := 13, ground := Ground.data }, { on := 17, ground := Ground.data }], guard := none }) (v := ?_) (listed := rp5_l18) rp5_g18 rp5_nosel rp5_f18 rp5_r18 (fun _ _ _ h => h) (Or.inl ⟨by rfl, ?_⟩) (by assumption) ?_
    rotate_left
    focus (intro w hSw; (try dsimp only at hSw); go_simp; try (with_reducible rfl))
    try simp only [Act.put, List.setIfInBounds_toArray, List.set_cons_zero, List.set_cons_succ]
    refine wpAnyH_take (i := 19) (oi := { dst := some 33, op := Op.build 31 #[(0, Operand.tmp 16), (1, Operand.tmp 19), (2, Operand.tmp 22), (3, Operand.tmp 32)], type := 31, pos := "ref.go:20", after := #[{ on := 2, ground := Ground.data }, { on := 5, ground := Ground.data }, { on := 8, ground := Ground.data }, { on := 18, ground := Ground.data }], guard := none }) (v := ?_) (listed := rp5_l19) rp5_g19 rp5_nosel rp5_f19 rp5_r19 (fun _ _ _ h => h) (Or.inl ⟨by rfl, ?_⟩) (by assumption) ?_
    rotate_left
    focus (intro w hSw; (try dsimp only at hSw); go_simp; try (with_reducible rfl))
    try simp only [Act.put, List.setIfInBounds_toArray, List.set_cons_zero, List.set_cons_succ]
    refine wpAnyH_take (i := 20) (oi := { dst := some 34, op := Op.move (Operand.tmp 0), type := 22, pos := "ref.go:20", after := #[], guard := none }) (v := ?_) (listed := rp5_l20) rp5_g20 rp5_nosel rp5_f20 rp5_r20 (fun _ _ _ h => h) (Or.inl ⟨by rfl, ?_⟩) (by assumption) ?_
    rotate_left
    focus (intro w hSw; (try dsimp only at hSw); go_simp; try (with_reducible rfl))
    try simp only [Act.put, List.setIfInBounds_toArray, List.set_cons_zero, List.set_cons_succ]
    refine wpAnyH_take (i := 21) (oi := { dst := some 35, op := Op.slice 22 (Operand.tmp 34) (some (Operand.const (Value.int IntKind.i64 5))) none none, type := 22, pos := "ref.go:20", after := #[{ on := 20, ground := Ground.data }], guard := none }) (v := ?_) (listed := rp5_l21) rp5_g21 rp5_nosel rp5_f21 rp5_r21 (fun _ _ _ h => h) (Or.inl ⟨by rfl, ?_⟩) (by assumption) ?_
    rotate_left
    focus (intro w hSw; (try dsimp only at hSw); go_simp; try (with_reducible rfl))
    try simp only [Act.put, List.setIfInBounds_toArray, List.set_cons_zero, List.set_cons_succ]
    refine wpAnyH_ready (rs := [22]) (listed := rp5_l22) rp5_r22 (by simp) (AllReadyH.cons (o := { dst := none, op := Op.store 31 (Operand.tmp 2) (Operand.tmp 33), type := 0, pos := "ref.go:20", after := #[{ on := 19, ground := Ground.data }, { on := 0, ground := Ground.phase }, { on := 1, ground := Ground.phase }, { on := 2, ground := Ground.phase }, { on := 3, ground := Ground.phase }, { on := 4, ground := Ground.phase }, { on := 5, ground := Ground.phase }, { on := 6, ground := Ground.phase }, { on := 7, ground := Ground.phase }, { on := 8, ground := Ground.phase }, { on := 9, ground := Ground.phase }, { on := 10, ground := Ground.phase }, { on := 11, ground := Ground.phase }, { on := 12, ground := Ground.phase }, { on := 13, ground := Ground.phase }, { on := 14, ground := Ground.phase }, { on := 15, ground := Ground.phase }, { on := 16, ground := Ground.phase }, { on := 17, ground := Ground.phase }, { on := 18, ground := Ground.phase }, { on := 19, ground := Ground.phase }, { on := 20, ground := Ground.textOnly Departure.lateStores }, { on := 21, ground := Ground.textOnly Departure.lateStoresUnsure }], guard := none }) rp5_g22 (fun K hK => ?_) AllReadyH.nil)
    rw [if_pos (by rfl)]
    go_simp
    refine hK.out _ _ (HS.out _ _ _ _) (fun hHeld => ?_)
    clear hK K
    try simp only [Act.put, List.setIfInBounds_toArray, List.set_cons_zero, List.set_cons_succ]
    refine wpAnyH_take (i := 23) (oi := { dst := some 3, op := Op.assign (Operand.tmp 35), type := 22, pos := "ref.go:20", after := #[{ on := 21, ground := Ground.data }, { on := 22, ground := Ground.chain }, { on := 0, ground := Ground.phase }, { on := 1, ground := Ground.phase }, { on := 2, ground := Ground.phase }, { on := 3, ground := Ground.phase }, { on := 4, ground := Ground.phase }, { on := 5, ground := Ground.phase }, { on := 6, ground := Ground.phase }, { on := 7, ground := Ground.phase }, { on := 8, ground := Ground.phase }, { on := 9, ground := Ground.phase }, { on := 10, ground := Ground.phase }, { on := 11, ground := Ground.phase }, { on := 12, ground := Ground.phase }, { on := 13, ground := Ground.phase }, { on := 14, ground := Ground.phase }, { on := 15, ground := Ground.phase }, { on := 16, ground := Ground.phase }, { on := 17, ground := Ground.phase }, { on := 18, ground := Ground.phase }, { on := 19, ground := Ground.phase }, { on := 20, ground := Ground.phase }, { on := 21, ground := Ground.phase }, { on := 22, ground := Ground.phase }], guard := none }) (v := ?_) (listed := rp5_l23) rp5_g23 rp5_nosel rp5_f23 rp5_r23 (fun _ _ _ h => h) (Or.inl ⟨by rfl, ?_⟩) (by assumption) ?_
    rotate_left
    focus (intro w hSw; (try dsimp only at hSw); go_simp; try (with_reducible rfl))
    try simp only [Act.put, List.setIfInBounds_toArray, List.set_cons_zero, List.set_cons_succ]
    refine wpAnyH_take (i := 24) (oi := { dst := some 4, op := Op.assign (Operand.const (Value.int IntKind.i64 0)), type := 3, pos := "ref.go:20", after := #[{ on := 23, ground := Ground.chain }, { on := 0, ground := Ground.phase }, { on := 1, ground := Ground.phase }, { on := 2, ground := Ground.phase }, { on := 3, ground := Ground.phase }, { on := 4, ground := Ground.phase }, { on := 5, ground := Ground.phase }, { on := 6, ground := Ground.phase }, { on := 7, ground := Ground.phase }, { on := 8, ground := Ground.phase }, { on := 9, ground := Ground.phase }, { on := 10, ground := Ground.phase }, { on := 11, ground := Ground.phase }, { on := 12, ground := Ground.phase }, { on := 13, ground := Ground.phase }, { on := 14, ground := Ground.phase }, { on := 15, ground := Ground.phase }, { on := 16, ground := Ground.phase }, { on := 17, ground := Ground.phase }, { on := 18, ground := Ground.phase }, { on := 19, ground := Ground.phase }, { on := 20, ground := Ground.phase }, { on := 21, ground := Ground.phase }, { on := 22, ground := Ground.phase }, { on := 23, ground := Ground.phase }], guard := none }) (v := ?_) (listed := rp5_l24) rp5_g24 rp5_nosel rp5_f24 rp5_r24 (fun _ _ _ h => h) (Or.inl ⟨by rfl, ?_⟩) (by assumption) ?_
    rotate_left
    focus (intro w hSw; (try dsimp only at hSw); go_simp; try (with_reducible rfl))
    try simp only [Act.put, List.setIfInBounds_toArray, List.set_cons_zero, List.set_cons_succ]
    refine wpAnyH_done (listed := rp5_l25) rp5_end ?_ _
    -- END
    simp only [HV.out.1, HV.out.2.1, HV.out.2.2.1, HV.out.2.2.2]
    have HO4 := Lib.hid ((old4 HB.out HGE.out (.int .u8 x0) (.int .u8 x1) (.int .u8 x2) (.int .i64 (x3 * 256 + x4))).drew)
    have HL4 := Lib.hid (laid4 HN4.out (.int .u8 x0) (.int .u8 x1) (.int .u8 x2) (.int .i64 (x3 * 256 + x4)))
    go_wp2_with fail
    refine bodyPost_ret (results_row_tmp2 rfl _ _ g #[.int .u8 x0, .int .u8 x1, .int .u8 x2, .int .i64 (x3 * 256 + x4)] rfl (load_rh HL4.out rfl)) rfl ?_
    exact ⟨_, rfl, HRD.out.below HO4.out, HO4.out⟩
  · obtain rfl : cap = 5 := by omega
    obtain rfl : n = 5 := by omega
    have HRD : Hid (RowOf .u8 w (.slice (some ⟨b, off, none⟩) 0 0) (L.drop 5)) := Lib.hid (by
      rw [show L.drop 5 = [] from List.drop_eq_nil_of_le (by rw [← HLN.out]; exact Nat.le_refl _)]
      exact ⟨_, 0, rfl, fun h => absurd rfl h⟩)
    go_enter Try.func17, Try.ntmps17
    go_upto_region 1 with fail
    rw [HW1.out, HG.out]
    go_upto_region 5 with fail
    -- REGION
    change Code.wp _ (Code.region 5 rp5 true) _ _ _
    refine wp_region_held_drew (S := (fun W => W.cell? ⟨b, off, none⟩ = some (.int .u8 x0) ∧ W.cell? ⟨b, off + 1, none⟩ = some (.int .u8 x1) ∧ W.cell? ⟨b, off + 2, none⟩ = some (.int .u8 x2) ∧ W.cell? ⟨b, off + 3, none⟩ = some (.int .u8 x3) ∧ W.cell? ⟨b, off + 4, none⟩ = some (.int .u8 x4))) (by kernel_rfl) (⟨c0, c1, c2, c3, c4⟩) (fun hHeld => ?_)
    change wpAnyH _ .any rp5 _ _ 25 rp5_l0 _ _
    refine wpAnyH_take (i := 0) (oi := { dst := some 14, op := Op.move (Operand.tmp 0), type := 22, pos := "ref.go:20", after := #[], guard := none }) (v := ?_) (listed := rp5_l0) rp5_g0 rp5_nosel rp5_f0 rp5_r0 (fun _ _ _ h => h) (Or.inl ⟨by rfl, ?_⟩) (by assumption) ?_
    rotate_left
    focus (intro w hSw; (try dsimp only at hSw); go_simp; try (with_reducible rfl))
    try simp only [Act.put, List.setIfInBounds_toArray, List.set_cons_zero, List.set_cons_succ]
    refine wpAnyH_take (i := 1) (oi := { dst := some 15, op := Op.indexAddr 22 (Operand.tmp 14) (Operand.const (Value.int IntKind.i64 0)), type := 0, pos := "ref.go:20", after := #[{ on := 0, ground := Ground.data }], guard := none }) (v := ?_) (listed := rp5_l1) rp5_g1 rp5_nosel rp5_f1 rp5_r1 (fun _ _ _ h => h) (Or.inl ⟨by rfl, ?_⟩) (by assumption) ?_
    rotate_left
    focus (intro w hSw; (try dsimp only at hSw); go_simp; try (with_reducible rfl))
    try simp only [Act.put, List.setIfInBounds_toArray, List.set_cons_zero, List.set_cons_succ]
    refine wpAnyH_take (i := 2) (oi := { dst := some 16, op := Op.load 5 (Operand.tmp 15), type := 5, pos := "ref.go:20", after := #[{ on := 1, ground := Ground.data }], guard := none }) (v := ?_) (listed := rp5_l2) rp5_g2 rp5_nosel rp5_f2 rp5_r2 (fun _ _ _ h => h) (Or.inl ⟨by rfl, ?_⟩) (by assumption) ?_
    rotate_left
    focus (intro w hSw; (try dsimp only at hSw); go_simp; try (with_reducible rfl))
    try simp only [Act.put, List.setIfInBounds_toArray, List.set_cons_zero, List.set_cons_succ]
    refine wpAnyH_take (i := 3) (oi := { dst := some 17, op := Op.move (Operand.tmp 0), type := 22, pos := "ref.go:20", after := #[], guard := none }) (v := ?_) (listed := rp5_l3) rp5_g3 rp5_nosel rp5_f3 rp5_r3 (fun _ _ _ h => h) (Or.inl ⟨by rfl, ?_⟩) (by assumption) ?_
    rotate_left
    focus (intro w hSw; (try dsimp only at hSw); go_simp; try (with_reducible rfl))
    try simp only [Act.put, List.setIfInBounds_toArray, List.set_cons_zero, List.set_cons_succ]
    refine wpAnyH_take (i := 4) (oi := { dst := some 18, op := Op.indexAddr 22 (Operand.tmp 17) (Operand.const (Value.int IntKind.i64 1)), type := 0, pos := "ref.go:20", after := #[{ on := 3, ground := Ground.data }], guard := none }) (v := ?_) (listed := rp5_l4) rp5_g4 rp5_nosel rp5_f4 rp5_r4 (fun _ _ _ h => h) (Or.inl ⟨by rfl, ?_⟩) (by assumption) ?_
    rotate_left
    focus (intro w hSw; (try dsimp only at hSw); go_simp; try (with_reducible rfl))
    try simp only [Act.put, List.setIfInBounds_toArray, List.set_cons_zero, List.set_cons_succ]
    refine wpAnyH_take (i := 5) (oi := { dst := some 19, op := Op.load 5 (Operand.tmp 18), type := 5, pos := "ref.go:20", after := #[{ on := 4, ground := Ground.data }], guard := none }) (v := ?_) (listed := rp5_l5) rp5_g5 rp5_nosel rp5_f5 rp5_r5 (fun _ _ _ h => h) (Or.inl ⟨by rfl, ?_⟩) (by assumption) ?_
    rotate_left
    focus (intro w hSw; (try dsimp only at hSw); go_simp; try (with_reducible rfl))
    try simp only [Act.put, List.setIfInBounds_toArray, List.set_cons_zero, List.set_cons_succ]
    refine wpAnyH_take (i := 6) (oi := { dst := some 20, op := Op.move (Operand.tmp 0), type := 22, pos := "ref.go:20", after := #[], guard := none }) (v := ?_) (listed := rp5_l6) rp5_g6 rp5_nosel rp5_f6 rp5_r6 (fun _ _ _ h => h) (Or.inl ⟨by rfl, ?_⟩) (by assumption) ?_
    rotate_left
    focus (intro w hSw; (try dsimp only at hSw); go_simp; try (with_reducible rfl))
    try simp only [Act.put, List.setIfInBounds_toArray, List.set_cons_zero, List.set_cons_succ]
    refine wpAnyH_take (i := 7) (oi := { dst := some 21, op := Op.indexAddr 22 (Operand.tmp 20) (Operand.const (Value.int IntKind.i64 2)), type := 0, pos := "ref.go:20", after := #[{ on := 6, ground := Ground.data }], guard := none }) (v := ?_) (listed := rp5_l7) rp5_g7 rp5_nosel rp5_f7 rp5_r7 (fun _ _ _ h => h) (Or.inl ⟨by rfl, ?_⟩) (by assumption) ?_
    rotate_left
    focus (intro w hSw; (try dsimp only at hSw); go_simp; try (with_reducible rfl))
    try simp only [Act.put, List.setIfInBounds_toArray, List.set_cons_zero, List.set_cons_succ]
    refine wpAnyH_take (i := 8) (oi := { dst := some 22, op := Op.load 5 (Operand.tmp 21), type := 5, pos := "ref.go:20", after := #[{ on := 7, ground := Ground.data }], guard := none }) (v := ?_) (listed := rp5_l8) rp5_g8 rp5_nosel rp5_f8 rp5_r8 (fun _ _ _ h => h) (Or.inl ⟨by rfl, ?_⟩) (by assumption) ?_
    rotate_left
    focus (intro w hSw; (try dsimp only at hSw); go_simp; try (with_reducible rfl))
    try simp only [Act.put, List.setIfInBounds_toArray, List.set_cons_zero, List.set_cons_succ]
    refine wpAnyH_take (i := 9) (oi := { dst := some 23, op := Op.move (Operand.tmp 0), type := 22, pos := "ref.go:20", after := #[], guard := none }) (v := ?_) (listed := rp5_l9) rp5_g9 rp5_nosel rp5_f9 rp5_r9 (fun _ _ _ h => h) (Or.inl ⟨by rfl, ?_⟩) (by assumption) ?_
    rotate_left
    focus (intro w hSw; (try dsimp only at hSw); go_simp; try (with_reducible rfl))
    try simp only [Act.put, List.setIfInBounds_toArray, List.set_cons_zero, List.set_cons_succ]
    refine wpAnyH_take (i := 10) (oi := { dst := some 24, op := Op.indexAddr 22 (Operand.tmp 23) (Operand.const (Value.int IntKind.i64 3)), type := 0, pos := "ref.go:20", after := #[{ on := 9, ground := Ground.data }], guard := none }) (v := ?_) (listed := rp5_l10) rp5_g10 rp5_nosel rp5_f10 rp5_r10 (fun _ _ _ h => h) (Or.inl ⟨by rfl, ?_⟩) (by assumption) ?_
    rotate_left
    focus (intro w hSw; (try dsimp only at hSw); go_simp; try (with_reducible rfl))
    try simp only [Act.put, List.setIfInBounds_toArray, List.set_cons_zero, List.set_cons_succ]
    refine wpAnyH_take (i := 11) (oi := { dst := some 25, op := Op.load 5 (Operand.tmp 24), type := 5, pos := "ref.go:20", after := #[{ on := 10, ground := Ground.data }], guard := none }) (v := ?_) (listed := rp5_l11) rp5_g11 rp5_nosel rp5_f11 rp5_r11 (fun _ _ _ h => h) (Or.inl ⟨by rfl, ?_⟩) (by assumption) ?_
    rotate_left
    focus (intro w hSw; (try dsimp only at hSw); go_simp; try (with_reducible rfl))
    try simp only [Act.put, List.setIfInBounds_toArray, List.set_cons_zero, List.set_cons_succ]
    refine wpAnyH_take (i := 12) (oi := { dst := some 26, op := Op.convert 5 3 (Operand.tmp 25), type := 3, pos := "ref.go:20", after := #[{ on := 11, ground := Ground.data }], guard := none }) (v := ?_) (listed := rp5_l12) rp5_g12 rp5_nosel rp5_f12 rp5_r12 (fun _ _ _ h => h) (Or.inl ⟨by rfl, ?_⟩) (by assumption) ?_
    rotate_left
    focus (intro w hSw; (try dsimp only at hSw); go_simp; try (with_reducible rfl))
    try simp only [Act.put, List.setIfInBounds_toArray, List.set_cons_zero, List.set_cons_succ]
    refine wpAnyH_take (i := 13) (oi := { dst := some 27, op := Op.binOp BinOp.mul 3 (Operand.const (Value.int IntKind.i64 256)) (Operand.tmp 26) 3, type := 3, pos := "ref.go:20", after := #[{ on := 12, ground := Ground.data }], guard := none }) (v := ?_) (listed := rp5_l13) rp5_g13 rp5_nosel rp5_f13 rp5_r13 (fun _ _ _ h => h) (Or.inl ⟨by rfl, ?_⟩) (by assumption) ?_
    rotate_left
    focus (intro w hSw; (try dsimp only at hSw); go_simp; try (with_reducible rfl))
    try simp only [Act.put, List.setIfInBounds_toArray, List.set_cons_zero, List.set_cons_succ]
    refine wpAnyH_take (i := 14) (oi := { dst := some 28, op := Op.move (Operand.tmp 0), type := 22, pos := "ref.go:20", after := #[], guard := none }) (v := ?_) (listed := rp5_l14) rp5_g14 rp5_nosel rp5_f14 rp5_r14 (fun _ _ _ h => h) (Or.inl ⟨by rfl, ?_⟩) (by assumption) ?_
    rotate_left
    focus (intro w hSw; (try dsimp only at hSw); go_simp; try (with_reducible rfl))
    try simp only [Act.put, List.setIfInBounds_toArray, List.set_cons_zero, List.set_cons_succ]
    refine wpAnyH_take (i := 15) (oi := { dst := some 29, op := Op.indexAddr 22 (Operand.tmp 28) (Operand.const (Value.int IntKind.i64 4)), type := 0, pos := "ref.go:20", after := #[{ on := 14, ground := Ground.data }], guard := none }) (v := ?_) (listed := rp5_l15) rp5_g15 rp5_nosel rp5_f15 rp5_r15 (fun _ _ _ h => h) (Or.inl ⟨by rfl, ?_⟩) (by assumption) ?_
    rotate_left
    focus (intro w hSw; (try dsimp only at hSw); go_simp; try (with_reducible rfl))
    try simp only [Act.put, List.setIfInBounds_toArray, List.set_cons_zero, List.set_cons_succ]
    refine wpAnyH_take (i := 16) (oi := { dst := some 30, op := Op.load 5 (Operand.tmp 29), type := 5, pos := "ref.go:20", after := #[{ on := 15, ground := Ground.data }], guard := none }) (v := ?_) (listed := rp5_l16) rp5_g16 rp5_nosel rp5_f16 rp5_r16 (fun _ _ _ h => h) (Or.inl ⟨by rfl, ?_⟩) (by assumption) ?_
    rotate_left
    focus (intro w hSw; (try dsimp only at hSw); go_simp; try (with_reducible rfl))
    try simp only [Act.put, List.setIfInBounds_toArray, List.set_cons_zero, List.set_cons_succ]
    refine wpAnyH_take (i := 17) (oi := { dst := some 31, op := Op.convert 5 3 (Operand.tmp 30), type := 3, pos := "ref.go:20", after := #[{ on := 16, ground := Ground.data }], guard := none }) (v := ?_) (listed := rp5_l17) rp5_g17 rp5_nosel rp5_f17 rp5_r17 (fun _ _ _ h => h) (Or.inl ⟨by rfl, ?_⟩) (by assumption) ?_
    rotate_left
    focus (intro w hSw; (try dsimp only at hSw); go_simp; try (with_reducible rfl))
    try simp only [Act.put, List.setIfInBounds_toArray, List.set_cons_zero, List.set_cons_succ]
    refine wpAnyH_take (i := 18) (oi := { dst := some 32, op := Op.binOp BinOp.add 3 (Operand.tmp 27) (Operand.tmp 31) 3, type := 3, pos := "ref.go:20", after := #[{ on := 13, ground := Ground.data }, { on := 17, ground := Ground.data }], guard := none }) (v := ?_) (listed := rp5_l18) rp5_g18 rp5_nosel rp5_f18 rp5_r18 (fun _ _ _ h => h) (Or.inl ⟨by rfl, ?_⟩) (by assumption) ?_
    rotate_left
    focus (intro w hSw; (try dsimp only at hSw); go_simp; try (with_reducible rfl))
    try simp only [Act.put, List.setIfInBounds_toArray, List.set_cons_zero, List.set_cons_succ]
    refine wpAnyH_take (i := 19) (oi := { dst := some 33, op := Op.build 31 #[(0, Operand.tmp 16), (1, Operand.tmp 19), (2, Operand.tmp 22), (3, Operand.tmp 32)], type := 31, pos := "ref.go:20", after := #[{ on := 2, ground := Ground.data }, { on := 5, ground := Ground.data }, { on := 8, ground := Ground.data }, { on := 18, ground := Ground.data }], guard := none }) (v := ?_) (listed := rp5_l19) rp5_g19 rp5_nosel rp5_f19 rp5_r19 (fun _ _ _ h => h) (Or.inl ⟨by rfl, ?_⟩) (by assumption) ?_
    rotate_left
    focus (intro w hSw; (try dsimp only at hSw); go_simp; try (with_reducible rfl))
    try simp only [Act.put, List.setIfInBounds_toArray, List.set_cons_zero, List.set_cons_succ]
    refine wpAnyH_take (i := 20) (oi := { dst := some 34, op := Op.move (Operand.tmp 0), type := 22, pos := "ref.go:20", after := #[], guard := none }) (v := ?_) (listed := rp5_l20) rp5_g20 rp5_nosel rp5_f20 rp5_r20 (fun _ _ _ h => h) (Or.inl ⟨by rfl, ?_⟩) (by assumption) ?_
    rotate_left
    focus (intro w hSw; (try dsimp only at hSw); go_simp; try (with_reducible rfl))
    try simp only [Act.put, List.setIfInBounds_toArray, List.set_cons_zero, List.set_cons_succ]
    refine wpAnyH_take (i := 21) (oi := { dst := some 35, op := Op.slice 22 (Operand.tmp 34) (some (Operand.const (Value.int IntKind.i64 5))) none none, type := 22, pos := "ref.go:20", after := #[{ on := 20, ground := Ground.data }], guard := none }) (v := ?_) (listed := rp5_l21) rp5_g21 rp5_nosel rp5_f21 rp5_r21 (fun _ _ _ h => h) (Or.inl ⟨by rfl, ?_⟩) (by assumption) ?_
    rotate_left
    focus (intro w hSw; (try dsimp only at hSw); go_simp; try (with_reducible rfl))
    try simp only [Act.put, List.setIfInBounds_toArray, List.set_cons_zero, List.set_cons_succ]
    refine wpAnyH_ready (rs := [22]) (listed := rp5_l22) rp5_r22 (by simp) (AllReadyH.cons (o := { dst := none, op := Op.store 31 (Operand.tmp 2) (Operand.tmp 33), type := 0, pos := "ref.go:20", after := #[{ on := 19, ground := Ground.data }, { on := 0, ground := Ground.phase }, { on := 1, ground := Ground.phase }, { on := 2, ground := Ground.phase }, { on := 3, ground := Ground.phase }, { on := 4, ground := Ground.phase }, { on := 5, ground := Ground.phase }, { on := 6, ground := Ground.phase }, { on := 7, ground := Ground.phase }, { on := 8, ground := Ground.phase }, { on := 9, ground := Ground.phase }, { on := 10, ground := Ground.phase }, { on := 11, ground := Ground.phase }, { on := 12, ground := Ground.phase }, { on := 13, ground := Ground.phase }, { on := 14, ground := Ground.phase }, { on := 15, ground := Ground.phase }, { on := 16, ground := Ground.phase }, { on := 17, ground := Ground.phase }, { on := 18, ground := Ground.phase }, { on := 19, ground := Ground.phase }, { on := 20, ground := Ground.textOnly Departure.lateStores }, { on := 21, ground := Ground.textOnly Departure.lateStoresUnsure }], guard := none }) rp5_g22 (fun K hK => ?_) AllReadyH.nil)
    rw [if_pos (by rfl)]
    go_simp
    refine hK.out _ _ (HS.out _ _ _ _) (fun hHeld => ?_)
    clear hK K
    try simp only [Act.put, List.setIfInBounds_toArray, List.set_cons_zero, List.set_cons_succ]
    refine wpAnyH_take (i := 23) (oi := { dst := some 3, op := Op.assign (Operand.tmp 35), type := 22, pos := "ref.go:20", after := #[{ on := 21, ground := Ground.data }, { on := 22, ground := Ground.chain }, { on := 0, ground := Ground.phase }, { on := 1, ground := Ground.phase }, { on := 2, ground := Ground.phase }, { on := 3, ground := Ground.phase }, { on := 4, ground := Ground.phase }, { on := 5, ground := Ground.phase }, { on := 6, ground := Ground.phase }, { on := 7, ground := Ground.phase }, { on := 8, ground := Ground.phase }, { on := 9, ground := Ground.phase }, { on := 10, ground := Ground.phase }, { on := 11, ground := Ground.phase }, { on := 12, ground := Ground.phase }, { on := 13, ground := Ground.phase }, { on := 14, ground := Ground.phase }, { on := 15, ground := Ground.phase }, { on := 16, ground := Ground.phase }, { on := 17, ground := Ground.phase }, { on := 18, ground := Ground.phase }, { on := 19, ground := Ground.phase }, { on := 20, ground := Ground.phase }, { on := 21, ground := Ground.phase }, { on := 22, ground := Ground.phase }], guard := none }) (v := ?_) (listed := rp5_l23) rp5_g23 rp5_nosel rp5_f23 rp5_r23 (fun _ _ _ h => h) (Or.inl ⟨by rfl, ?_⟩) (by assumption) ?_
    rotate_left
    focus (intro w hSw; (try dsimp only at hSw); go_simp; try (with_reducible rfl))
    try simp only [Act.put, List.setIfInBounds_toArray, List.set_cons_zero, List.set_cons_succ]
    refine wpAnyH_take (i := 24) (oi := { dst := some 4, op := Op.assign (Operand.const (Value.int IntKind.i64 0)), type := 3, pos := "ref.go:20", after := #[{ on := 23, ground := Ground.chain }, { on := 0, ground := Ground.phase }, { on := 1, ground := Ground.phase }, { on := 2, ground := Ground.phase }, { on := 3, ground := Ground.phase }, { on := 4, ground := Ground.phase }, { on := 5, ground := Ground.phase }, { on := 6, ground := Ground.phase }, { on := 7, ground := Ground.phase }, { on := 8, ground := Ground.phase }, { on := 9, ground := Ground.phase }, { on := 10, ground := Ground.phase }, { on := 11, ground := Ground.phase }, { on := 12, ground := Ground.phase }, { on := 13, ground := Ground.phase }, { on := 14, ground := Ground.phase }, { on := 15, ground := Ground.phase }, { on := 16, ground := Ground.phase }, { on := 17, ground := Ground.phase }, { on := 18, ground := Ground.phase }, { on := 19, ground := Ground.phase }, { on := 20, ground := Ground.phase }, { on := 21, ground := Ground.phase }, { on := 22, ground := Ground.phase }, { on := 23, ground := Ground.phase }], guard := none }) (v := ?_) (listed := rp5_l24) rp5_g24 rp5_nosel rp5_f24 rp5_r24 (fun _ _ _ h => h) (Or.inl ⟨by rfl, ?_⟩) (by assumption) ?_
    rotate_left
    focus (intro w hSw; (try dsimp only at hSw); go_simp; try (with_reducible rfl))
    try simp only [Act.put, List.setIfInBounds_toArray, List.set_cons_zero, List.set_cons_succ]
    refine wpAnyH_done (listed := rp5_l25) rp5_end ?_ _
    -- END
    simp only [HV.out.1, HV.out.2.1, HV.out.2.2.1, HV.out.2.2.2]
    have HO4 := Lib.hid ((old4 HB.out HGE.out (.int .u8 x0) (.int .u8 x1) (.int .u8 x2) (.int .i64 (x3 * 256 + x4))).drew)
    have HL4 := Lib.hid (laid4 HN4.out (.int .u8 x0) (.int .u8 x1) (.int .u8 x2) (.int .i64 (x3 * 256 + x4)))
    go_wp2_with fail
    refine bodyPost_ret (results_row_tmp2 rfl _ _ g #[.int .u8 x0, .int .u8 x1, .int .u8 x2, .int .i64 (x3 * 256 + x4)] rfl (load_rh HL4.out rfl)) rfl ?_
    exact ⟨_, rfl, HRD.out.below HO4.out, HO4.out⟩
end Go.Proofs.Ytfijcdidcnfadaa.Head
