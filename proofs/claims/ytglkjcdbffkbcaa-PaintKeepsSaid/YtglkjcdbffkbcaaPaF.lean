/-
  The brush: open cells let go up to a place.
-/
import Derived.Test.YtglkjcdbffkbcaaPaE
namespace Go.Proofs.Ytglkjcdbffkbcaa.Pl
open Go.RowKit Go.Shelf Base
set_option linter.unusedVariables false
set_option linter.unusedSimpArgs false
attribute [local go_sem] Oper.semAt_some

theorem three_of {W : World} {q : Nat} {x0 x1 x2 : Value} {t : TypeId} (h : W.heap[q]? = some (.cells #[x0, x1, x2] t (0, 0))) : W.cell? ⟨q, 0, none⟩ = some x0 ∧ W.cell? ⟨q, 1, none⟩ = some x1 ∧ W.cell? ⟨q, 2, none⟩ = some x2 ∧ ∀ o, W.frozen? ⟨q, o, none⟩ = false :=
  ⟨by simp [World.cell?, h], by simp [World.cell?, h], by simp [World.cell?, h], fun o => by simp [World.frozen?, h]⟩
theorem turn3 (W : World) (g : Nat) (x0 x1 x2 : Value) : Turn (At g) W (((W.setCell ⟨g, 0, none⟩ x0).setCell ⟨g, 1, none⟩ x1).setCell ⟨g, 2, none⟩ x2) :=
  ((turn_set W g 0 x0).trans (turn_set _ g 1 x1)).trans (turn_set _ g 2 x2)
theorem put3_blk {W : World} {g : Nat} {y0 y1 y2 : Value} {t : TypeId} (h : W.heap[g]? = some (.cells #[y0, y1, y2] t (0, 0))) (x0 x1 x2 : Value) :
    (((W.setCell ⟨g, 0, none⟩ x0).setCell ⟨g, 1, none⟩ x1).setCell ⟨g, 2, none⟩ x2).heap[g]? = some (.cells #[x0, x1, x2] t (0, 0)) := by
  rw [heap_set (heap_set (heap_set h 0 x0) 1 x1) 2 x2]; simp
/-- The brush beside the boxes of its pointer and of an order. -/
structure TeQ (w : World) (s b g : Nat) (r c : Int) (B : Bs) (o : Or) (vp vd : Value) (W : World) : Prop where
  a : TaQ w s b g r c B W
  ob : W.heap[w.heap.size + 1]? = some (.cells #[.int .u8 o.kind, .int .i64 o.addr, .int .u8 o.byte, .bool o.ge, vp, vd] 73 (0, 0))
section
variable {w W W' : World} {s b g : Nat} {r c : Int} {B B' : Bs} {o : Or} {vp vd : Value}
theorem TeQ.below (h : TeQ w s b g r c B o vp vd W) (t : Below W.heap.size W W') : TeQ w s b g r c B o vp vd W' := ⟨h.a.below t, (t.block _ (lt_of_block h.ob)).trans h.ob⟩
theorem TeQ.drew (h : TeQ w s b g r c B o vp vd W) : TeQ w s b g r c B o vp vd W.drew := ⟨h.a.drew, h.ob⟩
theorem TeQ.al (h : TeQ w s b g r c B o vp vd W) (x : Obj) : TeQ w s b g r c B o vp vd (W.alloc x) := h.below (below_alloc _ _)
theorem TeQ.pl (h : TeQ w s b g r c B o vp vd W) : PlAt W b g r c B.cur B.M := h.a.br.pl
theorem TeQ.sz (h : TeQ w s b g r c B o vp vd W) : w.heap.size + 1 < W.heap.size := lt_of_block h.ob
theorem TeQ.c3 (h : TeQ w s b g r c B o vp vd W) : W.cell? ⟨w.heap.size, 0, none⟩ = some (.pointer (some ⟨s, 0, none⟩)) ∧ W.cell? ⟨s, 0, none⟩ = some (.pointer (some ⟨b, 0, none⟩)) ∧ W.cell? ⟨s, 1, none⟩ = some (.int .i64 B.p) := h.a.c3
theorem TeQ.c5 (h : TeQ w s b g r c B o vp vd W) : W.cell? ⟨w.heap.size, 0, none⟩ = some (.pointer (some ⟨s, 0, none⟩)) ∧ W.cell? ⟨s, 0, none⟩ = some (.pointer (some ⟨b, 0, none⟩)) ∧ W.cell? ⟨s, 1, none⟩ = some (.int .i64 B.p) ∧ W.cell? ⟨w.heap.size + 1, 1, none⟩ = some (.int .i64 o.addr) ∧ TeQ w s b g r c B o vp vd W :=
  ⟨h.c3.1, h.c3.2.1, h.c3.2.2, by simp [World.cell?, h.ob], h⟩
theorem one_of {W : World} {q : Nat} {x0 : Value} {t : TypeId} (h : W.heap[q]? = some (.cells #[x0] t (0, 0))) : W.cell? ⟨q, 0, none⟩ = some x0 ∧ ∀ o, W.frozen? ⟨q, o, none⟩ = false :=
  ⟨by simp [World.cell?, h], fun o => by simp [World.frozen?, h]⟩
theorem TeQ.put3 (h : TeQ w s b g r c B o vp vd W) {q : Nat} {cs : Array Value} {t : TypeId} {fz : Nat × Nat} (hq : W.heap[q]? = some (.cells cs t fz)) (hl : w.heap.size + 1 < q) (x0 x1 x2 : Value) :
    TeQ w s b g r c B o vp vd (((W.setCell ⟨q, 0, none⟩ x0).setCell ⟨q, 1, none⟩ x1).setCell ⟨q, 2, none⟩ x2) := by
  have t := turn3 W q x0 x1 x2
  have h1 := h.a.ls
  have h2 := h.a.lb
  have h3 := h.a.lg
  have t2 : Turn (BrS s b g) w (((W.setCell ⟨q, 0, none⟩ x0).setCell ⟨q, 1, none⟩ x1).setCell ⟨q, 2, none⟩ x2) :=
    ⟨t.os.trans h.a.tn.os, t.tape.trans h.a.tn.tape, t.output.trans h.a.tn.output, Nat.le_trans h.a.tn.size t.size, fun k hk hS => (t.block k (Nat.lt_of_lt_of_le hk h.a.tn.size) (by unfold At; omega)).trans (h.a.tn.block k hk hS)⟩
  exact ⟨⟨⟨h.a.br.pl.turn t (by unfold At; omega) (by unfold At; omega), (t.block s h.a.br.lt (by unfold At; omega)).trans h.a.br.bx, h.a.br.p0, h.a.br.p1⟩, (t.block _ (lt_of_block h.a.bx) (by unfold At; omega)).trans h.a.bx, t2, h1, h2, h3⟩, (t.block _ (lt_of_block h.ob) (by unfold At; omega)).trans h.ob⟩
end
/-- The same beside the box of what is open, and an iterator. -/
structure TfQ (w : World) (s b g : Nat) (r c : Int) (B : Bs) (o : Or) (vp vd : Value) (q7 : Nat) (op : Bool) (N bf bc bt bs : Nat) (a0 z : Int) (W : World) : Prop where
  t : TbQ w s b g r c B N bf bc bt bs a0 z [] W
  ob : W.heap[w.heap.size + 1]? = some (.cells #[.int .u8 o.kind, .int .i64 o.addr, .int .u8 o.byte, .bool o.ge, vp, vd] 73 (0, 0))
  qb : W.heap[q7]? = some (.cells #[.bool op] 4 (0, 0))
  l7 : w.heap.size + 1 < q7 ∧ q7 < bf ∧ q7 < bc ∧ q7 < bt ∧ q7 < bs
section
variable {w W W' : World} {s b g : Nat} {r c : Int} {B B' : Bs} {o : Or} {vp vd : Value} {q7 : Nat} {op : Bool} {N bf bc bt bs : Nat} {a0 z : Int}
theorem TfQ.below (h : TfQ w s b g r c B o vp vd q7 op N bf bc bt bs a0 z W) (t : Below W.heap.size W W') : TfQ w s b g r c B o vp vd q7 op N bf bc bt bs a0 z W' :=
  ⟨h.t.below t, (t.block _ (lt_of_block h.ob)).trans h.ob, (t.block _ (lt_of_block h.qb)).trans h.qb, h.l7⟩
theorem TfQ.grown {row : Option Nat} (h : TfQ w s b g r c B o vp vd q7 op N bf bc bt bs a0 z W) (hg : W.grownBy W' row) (hr : ∀ r, row = some r → N ≤ r ∧ ∃ o : Obj, W.heap[r]? = some o ∧ o.isCells = false) : TfQ w s b g r c B o vp vd q7 op N bf bc bt bs a0 z W' := by
  have hr' : ∀ r, row = some r → ∃ o : Obj, W.heap[r]? = some o ∧ o.isCells = false := fun r e => (hr r e).2
  exact ⟨h.t.grown hg hr, (cells_kept h.ob hg hr').trans h.ob, (cells_kept h.qb hg hr').trans h.qb, h.l7⟩
theorem TfQ.step (h : TfQ w s b g r c B o vp vd q7 op N bf bc bt bs a0 z W) (hb : BrAt W' s b g r c B') (t : Turn (BrS s b g) W W') (hl : B'.M.length = B.M.length) : TfQ w s b g r c B' o vp vd q7 op N bf bc bt bs a0 z W' := by
  have h1 := h.t.a.ls
  have h2 := h.t.a.lb
  have h3 := h.t.a.lg
  have h4 := h.l7
  exact ⟨h.t.step hb t hl, (t.block _ (lt_of_block h.ob) (by unfold BrS; omega)).trans h.ob, (t.block _ (lt_of_block h.qb) (by unfold BrS; omega)).trans h.qb, h4⟩
/-- What is open is stored. -/
theorem TfQ.flip (h : TfQ w s b g r c B o vp vd q7 op N bf bc bt bs a0 z W) (x : Bool) : TfQ w s b g r c B o vp vd q7 x N bf bc bt bs a0 z (W.setCell ⟨q7, 0, none⟩ (.bool x)) := by
  have t := turn_set W q7 0 (.bool x)
  have h1 := h.t.a.ls
  have h2 := h.t.a.lb
  have h3 := h.t.a.lg
  have h4 := h.l7
  have t2 : Turn (BrS s b g) w (W.setCell ⟨q7, 0, none⟩ (.bool x)) :=
    ⟨t.os.trans h.t.a.tn.os, t.tape.trans h.t.a.tn.tape, t.output.trans h.t.a.tn.output, Nat.le_trans h.t.a.tn.size t.size, fun k hk hS => (t.block k (Nat.lt_of_lt_of_le hk h.t.a.tn.size) (by unfold At; omega)).trans (h.t.a.tn.block k hk hS)⟩
  obtain ⟨⟨g1, g2, g3, g4⟩, _⟩ := h.t.it
  have hN := h.t.hN
  refine ⟨⟨⟨⟨h.t.a.br.pl.turn t (by unfold At; omega) (by unfold At; omega), (t.block s h.t.a.br.lt (by unfold At; omega)).trans h.t.a.br.bx, h.t.a.br.p0, h.t.a.br.p1⟩, (t.block _ (lt_of_block h.t.a.bx) (by unfold At; omega)).trans h.t.a.bx, t2, h1, h2, h3⟩, h.t.it.keep ⟨t.size, fun k hk => t.block k (by rcases hk with rfl | rfl | rfl | rfl <;> omega) (by unfold At; rcases hk with rfl | rfl | rfl | rfl <;> omega)⟩, h.t.hi, Nat.le_trans hN t.size, fun _ h => by cases h⟩, (t.block _ (lt_of_block h.ob) (by unfold At; omega)).trans h.ob, ?_, h4⟩
  rw [heap_set h.qb]; simp
/-- What a round turns. -/
theorem TfQ.keep4 {S : Nat → Prop} (h : TfQ w s b g r c B o vp vd q7 op N bf bc bt bs a0 z W) (t : Turn S W W') (hS : ∀ k, S k → BrS s b g k ∨ k = q7) : Keep4 bf bc bt bs W W' := by
  have h1 := h.t.a.ls
  have h2 := h.t.a.lb
  have h3 := h.t.a.lg
  obtain ⟨⟨g1, g2, g3, g4⟩, _⟩ := h.t.it
  have h4 := h.l7
  have hN := h.t.hN
  refine keep4_of_turn t ⟨by omega, fun k => ?_⟩ ⟨by omega, fun k => ?_⟩ ⟨by omega, fun k => ?_⟩ ⟨by omega, fun k => ?_⟩ <;> (have := hS _ k; unfold BrS at this; omega)
theorem TfQ.keeps {S : Nat → Prop} (h : TfQ w s b g r c B o vp vd q7 op N bf bc bt bs a0 z W) (t : Turn S W W') (hS : ∀ k, S k → BrS s b g k ∨ k = q7) {D : Nat} (hD : q7 < D) : KeepsFrom D W W' := by
  have h1 := h.t.a.ls
  have h2 := h.t.a.lb
  have h3 := h.t.a.lg
  have h4 := h.l7
  exact keeps_of_turn t (fun k hk => by have := hS k hk; unfold BrS at this; omega)
end
theorem eraL_snoc (M : List Cl) (op : Bool) (pre : List Int) (p : Int) : eraL M op (pre ++ [p]) = eraStep (eraL M op pre) p := by unfold eraL; rw [List.foldl_append]; rfl
theorem eraL_len (M : List Cl) (op : Bool) (pre : List Int) : (eraL M op pre).1.length = M.length := by
  unfold eraL
  suffices h : ∀ (ps : List Int) (Z : List Cl × Bool), (ps.foldl eraStep Z).1.length = Z.1.length from h pre (M, op)
  intro ps
  induction ps with
  | nil => intro Z; rfl
  | cons p ps ih => intro Z; rw [List.foldl_cons, ih]; unfold eraStep; split; rfl; split; exact setL_length _ _ _; rfl
theorem eraL_bo {M : List Cl} (h : BoL M) (op : Bool) (pre : List Int) : BoL (eraL M op pre).1 := by
  unfold eraL
  suffices h' : ∀ (ps : List Int) (Z : List Cl × Bool), BoL Z.1 → BoL (ps.foldl eraStep Z).1 from h' pre (M, op) h
  intro ps
  induction ps with
  | nil => intro Z hZ; exact hZ
  | cons p ps ih => intro Z hZ; rw [List.foldl_cons]; refine ih _ ?_; unfold eraStep; split; exact hZ; split; exact setL_bo hZ p (by decide); exact hZ
set_option maxRecDepth 100000 in
set_option maxHeartbeats 8000000 in
theorem erase_in {w : World} {s b g : Nat} {r c : Int} {M : List Cl} {cur p : Int} {look : Cl} {laid : Bool} (h : BrAt w s b g r c ⟨M, cur, p, look, laid⟩) (hbo : BoL M) (o : Or) (vp vd : Value) (R : Bs × Int) (hR : R = if hasL M o.addr then ((⟨M, cur, p, look, laid⟩ : Bs).erase o.addr, (0 : Int)) else (⟨M, cur, p, look, laid⟩, 32)) :
    CallsIn Fence.wide 3 Try.prog 127 #[.pointer (some ⟨s, 0, none⟩), .agg (OV o vp vd)] w (OQ w s b g r c R) := by
  have hn : Hid (cells r c = M.length) := h.pl.size
  have hmost := h.pl.most
  have hpos := h.pl.pos
  have h0 : TeQ w s b g r c ⟨M, cur, p, look, laid⟩ o vp vd ((w.alloc (.cells #[.pointer (some ⟨s, 0, none⟩)] 148)).alloc (.cells #[.int .u8 o.kind, .int .i64 o.addr, .int .u8 o.byte, .bool o.ge, vp, vd] 73)) := by
    refine ⟨((TaQ.mk (h.below (below_alloc w _)) (heap_alloc_new w _) (Turn.of_below (below_alloc w _)) h.lt h.pl.lt h.pl.ltg)).below (below_alloc _ _), ?_⟩
    have := heap_alloc_new (w.alloc (.cells #[.pointer (some ⟨s, 0, none⟩)] 148)) (.cells #[.int .u8 o.kind, .int .i64 o.addr, .int .u8 o.byte, .bool o.ge, vp, vd] 73)
    rwa [World.size_alloc] at this
  obtain ⟨W0, hW0⟩ : ∃ W0, W0 = (w.alloc (.cells #[.pointer (some ⟨s, 0, none⟩)] 148)).alloc (.cells #[.int .u8 o.kind, .int .i64 o.addr, .int .u8 o.byte, .bool o.ge, vp, vd] 73) := ⟨_, rfl⟩
  have hsz0 : W0.heap.size = w.heap.size + 2 := by rw [hW0]; simp
  rw [← hW0] at h0
  obtain ⟨q0, q1, q2, q3, q4, q5, q6, q7, qf⟩ := h0.a.br.cells
  have qp := h0.a.pc
  have o1 : W0.cell? ⟨w.heap.size + 1, 1, none⟩ = some (.int .i64 o.addr) := by simp [World.cell?, h0.ob]
  have hH := Lib.hid (brHas_any h0.a.br o.addr)
  have HW0 := Lib.hid hW0.symm
  have H0 := Lib.hid h0
  have HZ0 := Lib.hid hsz0
  obtain ⟨f, hf⟩ : ∃ f, f = ofF M p := ⟨_, rfl⟩
  obtain ⟨ib, hib⟩ : ∃ ib, ib = isF M p := ⟨_, rfl⟩
  have HOF : Hid (∀ X, PlAt X b g r c cur M → Calls Try.prog 24 #[.pointer (some ⟨b, 0, none⟩), .int .i64 p] X fun e X' => e = .returned (.tuple #[f.val, .bool ib]) ∧ Below X.heap.size X X') := Lib.hid (fun X hX => by rw [hf, hib]; exact of_any hX p hbo)
  have hfa : 0 ≤ f.a ∧ f.a ≤ 255 := by rw [hf]; unfold ofF; split; exact ⟨by decide, by decide⟩; exact (show 0 ≤ (atL M _).b % 64 ∧ (atL M _).b % 64 ≤ 255 from ⟨Int.emod_nonneg _ (by decide), by have := Int.emod_lt_of_pos (atL M (befL M p)).b (show (0 : Int) < 64 by decide); omega⟩)
  have hopn : (⟨M, cur, p, look, laid⟩ : Bs).opn = (!ib || !Attr.prot f.a) := by rw [hf, hib]; rfl
  have HOPN := Lib.hid hopn
  clear h h0 hW0 hsz0 q1 q2 q3 q4 q5 q6 q7 qf hf hib hopn
  cases hc : hasL M o.addr with
  | false =>
    rw [hc] at hH hR
    have hr : R = (⟨M, cur, p, look, laid⟩, 32) := by rw [hR]; rfl
    subst hr
    clear hc hR
    refine callsIn_of_wp_marks Try.func127 rfl trivial ?_ rfl
    simp only [Try.ntmps127, List.size_toArray, List.length_cons, List.length_nil, Nat.reduceAdd, Nat.reduceSub, Array.replicate_succ, Array.replicate_zero, List.push_toArray, List.append_toArray, List.nil_append, List.cons_append]
    gi_wp2_with fail
    rw [HW0.out]
    gi_wp2_with (refine ⟨trivial, ?_⟩; gi_at_call 72; refine (callsIn_wide.2 hH.out).mono ?_; rintro e w1 ⟨rfl, rfl⟩)
    refine ⟨_, results_tmp rfl _ _ _, ?_⟩
    exact ⟨rfl, H0.out.a.br, H0.out.a.tn⟩
  | true =>
    rw [hc] at hH hR
    have hr : R = ((⟨M, cur, p, look, laid⟩ : Bs).erase o.addr, 0) := by rw [hR]; rfl
    subst hr
    have HC := Lib.hid hc
    clear hc hR
    refine callsIn_of_wp_marks Try.func127 rfl trivial ?_ rfl
    simp only [Try.ntmps127, List.size_toArray, List.length_cons, List.length_nil, Nat.reduceAdd, Nat.reduceSub, Array.replicate_succ, Array.replicate_zero, List.push_toArray, List.append_toArray, List.nil_append, List.cons_append]
    gi_wp2_with fail
    rw [HW0.out]
    gi_upto_region 3 with (refine ⟨trivial, ?_⟩; gi_at_call 72; refine (callsIn_wide.2 hH.out).mono ?_; rintro e w1 ⟨rfl, rfl⟩)
    gi_cut [5, 6] from 10 (fun v5 v6 X => ∃ F, v5 = .pointer (some ⟨F, 0, none⟩) ∧ v6 = .bool ib ∧ TeQ w s b g r c ⟨M, cur, p, look, laid⟩ o vp vd X ∧ X.heap[F]? = some (.cells #[.int .i64 f.s, .int .i64 f.k, .int .u8 f.a] 39 (0, 0)) ∧ w.heap.size + 1 < F)
    case first =>
      refine wpIn_wide.2 ?_
      clear q0 qp o1
      refine wp_region_noPanic ?_
      refine wp_region_held_drew (S := fun X => X.cell? ⟨w.heap.size, 0, none⟩ = some (.pointer (some ⟨s, 0, none⟩)) ∧ X.cell? ⟨s, 0, none⟩ = some (.pointer (some ⟨b, 0, none⟩)) ∧ X.cell? ⟨s, 1, none⟩ = some (.int .i64 p)) (by kernel_rfl) H0.out.drew.c3 (fun hHeld => ?_)
      refine wpAnyH_take (i := 0) (oi := { dst := some 16, op := Op.load 148 (Operand.tmp 2), type := 148, pos := "paint.go:178", after := #[], guard := none }) (v := ?_) rfl (by kernel_rfl) (by kernel_rfl) (by kernel_rfl) (fun _ _ _ h => h) (Or.inl ⟨by rfl, ?_⟩) (by assumption) ?_
      rotate_left
      focus (intro w hSw; (try dsimp only at hSw); go_simp; try (with_reducible rfl))
      try simp only [Act.put, List.setIfInBounds_toArray, List.set_cons_zero, List.set_cons_succ]
      refine wpAnyH_take (i := 1) (oi := { dst := some 17, op := Op.nilCheck (Operand.tmp 16), type := 0, pos := "paint.go:178", after := #[{ on := 0, ground := Ground.data }], guard := none }) (v := ?_) rfl (by kernel_rfl) (by kernel_rfl) (by kernel_rfl) (fun _ _ _ h => h) (Or.inl ⟨by rfl, ?_⟩) (by assumption) ?_
      rotate_left
      focus (intro w hSw; (try dsimp only at hSw); go_simp; try (with_reducible rfl))
      try simp only [Act.put, List.setIfInBounds_toArray, List.set_cons_zero, List.set_cons_succ]
      refine wpAnyH_take (i := 2) (oi := { dst := some 18, op := Op.fieldAddr 117 (Operand.tmp 17) 0, type := 0, pos := "paint.go:178", after := #[{ on := 1, ground := Ground.data }], guard := none }) (v := ?_) rfl (by kernel_rfl) (by kernel_rfl) (by kernel_rfl) (fun _ _ _ h => h) (Or.inl ⟨by rfl, ?_⟩) (by assumption) ?_
      rotate_left
      focus (intro w hSw; (try dsimp only at hSw); go_simp; try (with_reducible rfl))
      try simp only [Act.put, List.setIfInBounds_toArray, List.set_cons_zero, List.set_cons_succ]
      refine wpAnyH_take (i := 3) (oi := { dst := some 19, op := Op.load 26 (Operand.tmp 18), type := 26, pos := "paint.go:178", after := #[{ on := 2, ground := Ground.data }], guard := none }) (v := ?_) rfl (by kernel_rfl) (by kernel_rfl) (by kernel_rfl) (fun _ _ _ h => h) (Or.inl ⟨by rfl, ?_⟩) (by assumption) ?_
      rotate_left
      focus (intro w hSw; (try dsimp only at hSw); go_simp; try (with_reducible rfl))
      try simp only [Act.put, List.setIfInBounds_toArray, List.set_cons_zero, List.set_cons_succ]
      refine wpAnyH_take (i := 4) (oi := { dst := some 20, op := Op.load 148 (Operand.tmp 2), type := 148, pos := "paint.go:178", after := #[], guard := none }) (v := ?_) rfl (by kernel_rfl) (by kernel_rfl) (by kernel_rfl) (fun _ _ _ h => h) (Or.inl ⟨by rfl, ?_⟩) (by assumption) ?_
      rotate_left
      focus (intro w hSw; (try dsimp only at hSw); go_simp; try (with_reducible rfl))
      try simp only [Act.put, List.setIfInBounds_toArray, List.set_cons_zero, List.set_cons_succ]
      refine wpAnyH_take (i := 5) (oi := { dst := some 21, op := Op.nilCheck (Operand.tmp 20), type := 0, pos := "paint.go:178", after := #[{ on := 4, ground := Ground.data }], guard := none }) (v := ?_) rfl (by kernel_rfl) (by kernel_rfl) (by kernel_rfl) (fun _ _ _ h => h) (Or.inl ⟨by rfl, ?_⟩) (by assumption) ?_
      rotate_left
      focus (intro w hSw; (try dsimp only at hSw); go_simp; try (with_reducible rfl))
      try simp only [Act.put, List.setIfInBounds_toArray, List.set_cons_zero, List.set_cons_succ]
      refine wpAnyH_take (i := 6) (oi := { dst := some 22, op := Op.fieldAddr 117 (Operand.tmp 21) 1, type := 0, pos := "paint.go:178", after := #[{ on := 5, ground := Ground.data }], guard := none }) (v := ?_) rfl (by kernel_rfl) (by kernel_rfl) (by kernel_rfl) (fun _ _ _ h => h) (Or.inl ⟨by rfl, ?_⟩) (by assumption) ?_
      rotate_left
      focus (intro w hSw; (try dsimp only at hSw); go_simp; try (with_reducible rfl))
      try simp only [Act.put, List.setIfInBounds_toArray, List.set_cons_zero, List.set_cons_succ]
      refine wpAnyH_take (i := 7) (oi := { dst := some 23, op := Op.load 3 (Operand.tmp 22), type := 3, pos := "paint.go:178", after := #[{ on := 6, ground := Ground.data }], guard := none }) (v := ?_) rfl (by kernel_rfl) (by kernel_rfl) (by kernel_rfl) (fun _ _ _ h => h) (Or.inl ⟨by rfl, ?_⟩) (by assumption) ?_
      rotate_left
      focus (intro w hSw; (try dsimp only at hSw); go_simp; try (with_reducible rfl))
      try simp only [Act.put, List.setIfInBounds_toArray, List.set_cons_zero, List.set_cons_succ]
      refine wpAnyH_ready (rs := [8, 12]) (by kernel_rfl) (by simp) (AllReadyH.cons (o := { dst := some 24, op := Op.call { callee := Callee.value (Operand.func 24), args := #[Operand.tmp 19, Operand.tmp 23], argTypes := #[26, 3] }, type := 52, pos := "paint.go:178", after := #[{ on := 3, ground := Ground.data }, { on := 7, ground := Ground.data }], guard := none }) rfl (fun K hK => ?_) (AllReadyH.cons (o := { dst := some 5, op := Op.alloc 39, type := 0, pos := "paint.go:178", after := #[], guard := none }) rfl (fun K hK => ?_) AllReadyH.nil))
      · go_simp
        go_at_call 24
        refine (HOF.out _ (TeQ.pl (H0.out.drew))).mono ?_
        rintro e w2 ⟨rfl, hb2⟩
        have K2 := Lib.hid (TeQ.below (H0.out.drew) hb2)
        clear hb2
        go_wp2_with fail
        refine hK.out _ _ (K2.out.c3) (fun hHeld => ?_)
        clear hK K
        try simp only [Act.put, List.setIfInBounds_toArray, List.set_cons_zero, List.set_cons_succ]
        refine wpAnyH_take (i := 9) (oi := { dst := some 15, op := Op.move (Operand.tmp 24), type := 52, pos := "paint.go:178", after := #[{ on := 8, ground := Ground.data }], guard := none }) (v := ?_) rfl (by kernel_rfl) (by kernel_rfl) (by kernel_rfl) (fun _ _ _ h => h) (Or.inl ⟨by rfl, ?_⟩) (by assumption) ?_
        rotate_left
        focus (intro w hSw; (try dsimp only at hSw); go_simp; try (with_reducible rfl))
        try simp only [Act.put, List.setIfInBounds_toArray, List.set_cons_zero, List.set_cons_succ]
        refine wpAnyH_take (i := 10) (oi := { dst := some 25, op := Op.extract (Operand.tmp 15) 0, type := 39, pos := "paint.go:178", after := #[{ on := 9, ground := Ground.data }], guard := none }) (v := ?_) rfl (by kernel_rfl) (by kernel_rfl) (by kernel_rfl) (fun _ _ _ h => h) (Or.inl ⟨by rfl, ?_⟩) (by assumption) ?_
        rotate_left
        focus (intro w hSw; (try dsimp only at hSw); go_simp; try (with_reducible rfl))
        try simp only [Act.put, List.setIfInBounds_toArray, List.set_cons_zero, List.set_cons_succ]
        refine wpAnyH_take (i := 11) (oi := { dst := some 26, op := Op.extract (Operand.tmp 15) 1, type := 4, pos := "paint.go:178", after := #[{ on := 9, ground := Ground.data }, { on := 13, ground := Ground.gcOnly Departure.lateStores }], guard := none }) (v := ?_) rfl (by kernel_rfl) (by kernel_rfl) (by kernel_rfl) (fun _ _ _ h => h) (Or.inl ⟨by rfl, ?_⟩) (by assumption) ?_
        rotate_left
        focus (intro w hSw; (try dsimp only at hSw); go_simp; try (with_reducible rfl))
        try simp only [Act.put, List.setIfInBounds_toArray, List.set_cons_zero, List.set_cons_succ]
        refine wpAnyH_ready (rs := [12]) (by kernel_rfl) (by simp) (AllReadyH.cons (o := { dst := some 5, op := Op.alloc 39, type := 0, pos := "paint.go:178", after := #[], guard := none }) rfl (fun K hK => ?_) AllReadyH.nil)
        go_simp
        have K3 := Lib.hid (K2.out.al (.cells #[.int .i64 0, .int .i64 0, .int .u8 0] 39))
        refine hK.out _ _ (K3.out.c3) (fun hHeld => ?_)
        clear hK K
        try simp only [Act.put, List.setIfInBounds_toArray, List.set_cons_zero, List.set_cons_succ]
        refine wpAnyH_ready (rs := [13]) (by kernel_rfl) (by simp) (AllReadyH.cons (o := { dst := none, op := Op.store 39 (Operand.tmp 5) (Operand.tmp 25), type := 0, pos := "paint.go:178", after := #[{ on := 12, ground := Ground.data }, { on := 10, ground := Ground.data }, { on := 8, ground := Ground.chain }, { on := 0, ground := Ground.phase }, { on := 1, ground := Ground.phase }, { on := 2, ground := Ground.phase }, { on := 3, ground := Ground.phase }, { on := 4, ground := Ground.phase }, { on := 5, ground := Ground.phase }, { on := 6, ground := Ground.phase }, { on := 7, ground := Ground.phase }, { on := 8, ground := Ground.phase }, { on := 9, ground := Ground.phase }, { on := 10, ground := Ground.phase }, { on := 11, ground := Ground.textOnly Departure.lateStores }, { on := 12, ground := Ground.phase }], guard := none }) rfl (fun K hK => ?_) AllReadyH.nil)
        go_simp
        have K4 := Lib.hid (K2.out.al (.cells #[.int .i64 f.s, .int .i64 f.k, .int .u8 f.a] 39))
        go_wp2_with fail
        refine hK.out _ _ (K4.out.c3) (fun hHeld => ?_)
        clear hK K
        try simp only [Act.put, List.setIfInBounds_toArray, List.set_cons_zero, List.set_cons_succ]
        refine wpAnyH_take (i := 14) (oi := { dst := some 6, op := Op.assign (Operand.tmp 26), type := 4, pos := "paint.go:178", after := #[{ on := 11, ground := Ground.data }, { on := 13, ground := Ground.chain }, { on := 0, ground := Ground.phase }, { on := 1, ground := Ground.phase }, { on := 2, ground := Ground.phase }, { on := 3, ground := Ground.phase }, { on := 4, ground := Ground.phase }, { on := 5, ground := Ground.phase }, { on := 6, ground := Ground.phase }, { on := 7, ground := Ground.phase }, { on := 8, ground := Ground.phase }, { on := 9, ground := Ground.phase }, { on := 10, ground := Ground.phase }, { on := 11, ground := Ground.phase }, { on := 12, ground := Ground.phase }, { on := 13, ground := Ground.phase }], guard := none }) (v := ?_) rfl (by kernel_rfl) (by kernel_rfl) (by kernel_rfl) (fun _ _ _ h => h) (Or.inl ⟨by rfl, ?_⟩) (by assumption) ?_
        rotate_left
        focus (intro w hSw; (try dsimp only at hSw); go_simp; try (with_reducible rfl))
        try simp only [Act.put, List.setIfInBounds_toArray, List.set_cons_zero, List.set_cons_succ]
        refine wpAnyH_done (by kernel_rfl) ?_ _
        refine NoPanic.normal ?_
        gi_wp2_with fail
        gi_meet
        case rel => exact ⟨w2.heap.size, rfl, rfl, K4.out, heap_alloc_new w2 _, by have h1 := HZ0.out; have h2 := K2.out.sz; omega⟩
      · go_simp
        have K3 := Lib.hid (TeQ.drew (H0.out.al (.cells #[.int .i64 0, .int .i64 0, .int .u8 0] 39)))
        have n3 : (W0.alloc (.cells #[.int .i64 0, .int .i64 0, .int .u8 0] 39)).drew.heap[W0.heap.size]? = some (.cells #[.int .i64 0, .int .i64 0, .int .u8 0] 39 (0, 0)) := heap_alloc_new W0 _
        refine hK.out _ _ (K3.out.c3) (fun hHeld => ?_)
        clear hK K
        try simp only [Act.put, List.setIfInBounds_toArray, List.set_cons_zero, List.set_cons_succ]
        refine wpAnyH_ready (rs := [8]) (by kernel_rfl) (by simp) (AllReadyH.cons (o := { dst := some 24, op := Op.call { callee := Callee.value (Operand.func 24), args := #[Operand.tmp 19, Operand.tmp 23], argTypes := #[26, 3] }, type := 52, pos := "paint.go:178", after := #[{ on := 3, ground := Ground.data }, { on := 7, ground := Ground.data }], guard := none }) rfl (fun K hK => ?_) AllReadyH.nil)
        go_simp
        go_at_call 24
        refine (HOF.out _ (TeQ.pl (K3.out))).mono ?_
        rintro e w2 ⟨rfl, hb2⟩
        have K2 := Lib.hid (TeQ.below (K3.out) hb2)
        have n2 := (hb2.block _ (lt_of_block n3)).trans n3
        obtain ⟨z0, z1, z2, zf⟩ := three_of n2
        clear hb2
        go_wp2_with fail
        refine hK.out _ _ (K2.out.c3) (fun hHeld => ?_)
        clear hK K
        try simp only [Act.put, List.setIfInBounds_toArray, List.set_cons_zero, List.set_cons_succ]
        refine wpAnyH_take (i := 9) (oi := { dst := some 15, op := Op.move (Operand.tmp 24), type := 52, pos := "paint.go:178", after := #[{ on := 8, ground := Ground.data }], guard := none }) (v := ?_) rfl (by kernel_rfl) (by kernel_rfl) (by kernel_rfl) (fun _ _ _ h => h) (Or.inl ⟨by rfl, ?_⟩) (by assumption) ?_
        rotate_left
        focus (intro w hSw; (try dsimp only at hSw); go_simp; try (with_reducible rfl))
        try simp only [Act.put, List.setIfInBounds_toArray, List.set_cons_zero, List.set_cons_succ]
        refine wpAnyH_take (i := 10) (oi := { dst := some 25, op := Op.extract (Operand.tmp 15) 0, type := 39, pos := "paint.go:178", after := #[{ on := 9, ground := Ground.data }], guard := none }) (v := ?_) rfl (by kernel_rfl) (by kernel_rfl) (by kernel_rfl) (fun _ _ _ h => h) (Or.inl ⟨by rfl, ?_⟩) (by assumption) ?_
        rotate_left
        focus (intro w hSw; (try dsimp only at hSw); go_simp; try (with_reducible rfl))
        try simp only [Act.put, List.setIfInBounds_toArray, List.set_cons_zero, List.set_cons_succ]
        refine wpAnyH_take (i := 11) (oi := { dst := some 26, op := Op.extract (Operand.tmp 15) 1, type := 4, pos := "paint.go:178", after := #[{ on := 9, ground := Ground.data }, { on := 13, ground := Ground.gcOnly Departure.lateStores }], guard := none }) (v := ?_) rfl (by kernel_rfl) (by kernel_rfl) (by kernel_rfl) (fun _ _ _ h => h) (Or.inl ⟨by rfl, ?_⟩) (by assumption) ?_
        rotate_left
        focus (intro w hSw; (try dsimp only at hSw); go_simp; try (with_reducible rfl))
        try simp only [Act.put, List.setIfInBounds_toArray, List.set_cons_zero, List.set_cons_succ]
        refine wpAnyH_ready (rs := [13]) (by kernel_rfl) (by simp) (AllReadyH.cons (o := { dst := none, op := Op.store 39 (Operand.tmp 5) (Operand.tmp 25), type := 0, pos := "paint.go:178", after := #[{ on := 12, ground := Ground.data }, { on := 10, ground := Ground.data }, { on := 8, ground := Ground.chain }, { on := 0, ground := Ground.phase }, { on := 1, ground := Ground.phase }, { on := 2, ground := Ground.phase }, { on := 3, ground := Ground.phase }, { on := 4, ground := Ground.phase }, { on := 5, ground := Ground.phase }, { on := 6, ground := Ground.phase }, { on := 7, ground := Ground.phase }, { on := 8, ground := Ground.phase }, { on := 9, ground := Ground.phase }, { on := 10, ground := Ground.phase }, { on := 11, ground := Ground.textOnly Departure.lateStores }, { on := 12, ground := Ground.phase }], guard := none }) rfl (fun K hK => ?_) AllReadyH.nil)
        go_simp
        have K4 := Lib.hid (K2.out.put3 n2 (by have := HZ0.out; omega) (.int .i64 f.s) (.int .i64 f.k) (.int .u8 f.a))
        go_wp2_with fail
        refine hK.out _ _ (K4.out.c3) (fun hHeld => ?_)
        clear hK K
        try simp only [Act.put, List.setIfInBounds_toArray, List.set_cons_zero, List.set_cons_succ]
        refine wpAnyH_take (i := 14) (oi := { dst := some 6, op := Op.assign (Operand.tmp 26), type := 4, pos := "paint.go:178", after := #[{ on := 11, ground := Ground.data }, { on := 13, ground := Ground.chain }, { on := 0, ground := Ground.phase }, { on := 1, ground := Ground.phase }, { on := 2, ground := Ground.phase }, { on := 3, ground := Ground.phase }, { on := 4, ground := Ground.phase }, { on := 5, ground := Ground.phase }, { on := 6, ground := Ground.phase }, { on := 7, ground := Ground.phase }, { on := 8, ground := Ground.phase }, { on := 9, ground := Ground.phase }, { on := 10, ground := Ground.phase }, { on := 11, ground := Ground.phase }, { on := 12, ground := Ground.phase }, { on := 13, ground := Ground.phase }], guard := none }) (v := ?_) rfl (by kernel_rfl) (by kernel_rfl) (by kernel_rfl) (fun _ _ _ h => h) (Or.inl ⟨by rfl, ?_⟩) (by assumption) ?_
        rotate_left
        focus (intro w hSw; (try dsimp only at hSw); go_simp; try (with_reducible rfl))
        try simp only [Act.put, List.setIfInBounds_toArray, List.set_cons_zero, List.set_cons_succ]
        refine wpAnyH_done (by kernel_rfl) ?_ _
        refine NoPanic.normal ?_
        gi_wp2_with fail
        gi_meet
        case rel => exact ⟨W0.heap.size, rfl, rfl, K4.out, put3_blk n2 _ _ _, by have h1 := HZ0.out; omega⟩
    case rest =>
    obtain ⟨F, rfl, rfl, hT, hF, hlF⟩ := hcut
    have HT := Lib.hid hT
    have HF := Lib.hid hF
    have HLF := Lib.hid hlF
    obtain ⟨f0, f1, f2, ff⟩ := three_of hF
    clear hT hF hlF q0 qp o1 H0
    gi_upto_region 4 with fail
    gi_cut [7] from 10 (fun v7 X => ∃ q7, v7 = .pointer (some ⟨q7, 0, none⟩) ∧ TeQ w s b g r c ⟨M, cur, p, look, laid⟩ o vp vd X ∧ X.heap[q7]? = some (.cells #[.bool (!ib || !Attr.prot f.a)] 4 (0, 0)) ∧ w.heap.size + 1 < q7)
    case first =>
      cases ib with
      | false =>
        gi_wp2_with (refine ⟨trivial, ?_⟩)
        gi_meet
        case rel => exact ⟨wc.heap.size, rfl, HT.out.al _, heap_alloc_new wc _, HT.out.sz⟩
      | true =>
        gi_wp2_with (refine ⟨trivial, ?_⟩; gi_at_call 55; refine (callsIn_wide.2 (Attr.protected_any f.a _ hfa.1 hfa.2)).mono ?_; rintro e w4 ⟨rfl, rfl⟩)
        gi_meet
        case rel => exact ⟨wc.heap.size, rfl, HT.out.al _, heap_alloc_new wc _, HT.out.sz⟩
    case rest =>
    obtain ⟨q7, rfl, hT, hq7, hl7⟩ := hcut
    have HT7 := Lib.hid hT
    have HQ7 := Lib.hid hq7
    have HL7 := Lib.hid hl7
    clear hT hq7 hl7 f0 f1 f2 ff HT HF HLF
    gi_upto_region 5 with fail
    gi_cut [46] from 10 (fun v X => ∃ N q Bk, v = .func (.func 136) #[] #[.pointer (some ⟨q + 1, 0, none⟩), .pointer (some ⟨Bk, 0, none⟩), .pointer (some ⟨q + 2, 0, none⟩), .pointer (some ⟨q, 0, none⟩)] ∧ TfQ w s b g r c ⟨M, cur, p, look, laid⟩ o vp vd q7 (!ib || !Attr.prot f.a) N (q + 1) Bk (q + 2) q p o.addr X)
    case first =>
      refine wpIn_wide.2 ?_
      have hk0 := lt_of_block HQ7.out
      first
        | (go_region_held3 (fun X => X.cell? ⟨w.heap.size, 0, none⟩ = some (.pointer (some ⟨s, 0, none⟩)) ∧ X.cell? ⟨s, 0, none⟩ = some (.pointer (some ⟨b, 0, none⟩)) ∧ X.cell? ⟨s, 1, none⟩ = some (.int .i64 p) ∧ X.cell? ⟨w.heap.size + 1, 1, none⟩ = some (.int .i64 o.addr) ∧ TeQ w s b g r c ⟨M, cur, p, look, laid⟩ o vp vd X)
            (with_reducible (first | assumption | exact TeQ.c5 HT7.out.drew | exact TeQ.c5 HT7.out | exact TeQ.c5 (by assumption)))
            (first
              | (go_at_call 76; refine (size_any HT7.out.drew.a.br.pl).mono ?_; rintro e w1 ⟨rfl, hb1⟩; have H1 := HT7.out.drew.below hb1; have hz1 := hb1.size; have hq1 := (hb1.block q7 (lt_of_block HQ7.out)).trans HQ7.out; clear hb1)
              | (go_at_call 110; refine (between_any r c p o.addr M.length w1 hn).mono ?_; rintro e w2 ⟨Bk, rfl, hI, hb2, hBB⟩; have H2 := H1.below hb2; have HI := Lib.hid hI; have hz2 := hb2.size; have hq2 := (hb2.block q7 (lt_of_block hq1)).trans hq1; clear hI hb2)))
        | fail
      gi_wp2_with fail
      have hzz : q7 < w1.heap.size := lt_of_block hq1
      gi_meet
      case rel => exact ⟨w2.heap.size, w1.heap.size, Bk, rfl, ⟨⟨H2.a, HI.out, by have := HL7.out; exact ⟨by omega, by omega, by omega, by omega⟩, Nat.le_refl _, fun _ h => by cases h⟩, H2.ob, hq2, by have := HL7.out; exact ⟨by omega, by omega, by omega, by omega, by omega⟩⟩⟩
    case rest =>
    obtain ⟨N, q, Bk, rfl, hT⟩ := hcut
    have HT := Lib.hid hT
    have hNN := hT.t.hN
    have hNW := hT.t.a.tn.size
    have hl7 := hT.l7
    have hit := hT.t.it.1
    obtain ⟨op, hop⟩ : ∃ op, op = (!ib || !Attr.prot f.a) := ⟨_, rfl⟩
    rw [← hop] at HT HOPN
    clear hT hop HT7 HQ7 HL7
    gi_wp2_with fail
    refine range_act (α := Int) (f := fun t x => (t.setIfInBounds 47 (.int .i64 x)).setIfInBounds 8 (.int .i64 x)) rfl (by omega) (gf := 136) rfl trivial (enters_of Try.func136 (by kernel_rfl) rfl)
      (SeqO.of_stops (betw_stops2 2 (by omega) _ _ _ _ p M.length o.addr r c hn _ (HT.out.t.itw)) (fun h => h.1)) Keep4.trans ?hKb1 (Below.refl _ _) (fun _ => rfl)
      (fun pre W => TfQ w s b g r c ⟨(eraL M op pre).1, cur, p, look, laid⟩ o vp vd q7 (eraL M op pre).2 N (q + 1) Bk (q + 2) q p o.addr W)
      (fun _ _ _ => False)
      (fun s' X Y row h hg hr => h.grown hg (fun r e => ⟨by have := (hr r e).1; omega, (hr r e).2⟩))
      (fun _ _ _ _ _ h _ _ => h)
      HT.out ?assign1 ?body1 ?done1 ?stop1
    case hKb1 => exact fun W o' o'' ho hc => HT.out.t.keepPut ho
    case assign1 =>
      intro l pre x W K hI' hK
      have HK := Lib.hid hK
      clear hK
      gi_wp2
      exact HK.out _ _ (KeepsFrom.refl _ _) (Keep4.refl _ _ _ _ _) hI' rfl
    case body1 =>
      rintro l pre y a' W hT' rfl hlt hWs
      simp only [List.setIfInBounds_toArray, List.set_cons_zero, List.set_cons_succ]
      rw [Nat.add_zero] at hWs
      have hst : eraL M op (pre ++ [y]) = eraStep (eraL M op pre) y := eraL_snoc _ _ _ _
      have hbZ := eraL_bo hbo op pre y
      have hlZ := eraL_len M op pre
      obtain ⟨Z, hZ⟩ : ∃ Z, Z = eraL M op pre := ⟨_, rfl⟩
      rw [← hZ] at hT' hst hbZ hlZ
      obtain ⟨Z1, Z2⟩ := Z
      simp only at hT' hbZ hlZ
      have HST := Lib.hid hst
      obtain ⟨x0, x1, x2, x3, x4, x5, x6, x7, xf⟩ := hT'.t.a.br.cells
      have xp := hT'.t.a.pc
      obtain ⟨y0, yf⟩ := one_of hT'.qb
      obtain ⟨⟨yb, yg, ys, yl, yc⟩, hy⟩ : ∃ z, z = atL Z1 y := ⟨_, rfl⟩
      rw [← hy] at hbZ
      simp only at hbZ
      have HV := Lib.hid hT'
      have HY := Lib.hid hy
      have HLZ := Lib.hid hlZ
      clear hT' hlt hy x1 x2 x3 x4 x5 x6 x7 hst hZ hlZ
      cases ys with
      | true =>
        gi_wp2_with (refine ⟨trivial, ?_⟩; first
          | (gi_at_call 40; refine (CallsIn.inRound l (callsIn_wide.2 (at_is HV.out.t.a.br.pl HY.out))).mono ?_; rintro e w3 ⟨rfl, hb3⟩; simp only [Cl.val]; have K3 := Lib.hid (HV.out.below (hb3.trans (below_alloc w3 (.cells #[.int .u8 yb, .bool yg, .bool true, .int .u8 yl, .int .u8 yc] 45) |>.mono hb3.size))); have B3 := Lib.hid (hb3.trans ((below_alloc w3 (.cells #[.int .u8 yb, .bool yg, .bool true, .int .u8 yl, .int .u8 yc] 45)).mono hb3.size)); obtain ⟨v0, vf⟩ := one_of K3.out.qb; clear hb3)
          | (gi_at_call 55; refine (CallsIn.inRound l (callsIn_wide.2 (Attr.protected_any yb _ hbZ.1 hbZ.2))).mono ?_; rintro e w4 ⟨rfl, rfl⟩)
          | skip)
        have hT := (Turn.of_below (S := fun k => k = q7) B3.out).trans (turn_set (w3.alloc (.cells #[.int .u8 yb, .bool yg, .bool true, .int .u8 yl, .int .u8 yc] 45)) q7 0 (.bool !Attr.prot yb))
        have he : eraStep (Z1, Z2) y = (Z1, !Attr.prot yb) := by unfold eraStep; simp only; rw [← HY.out]; rfl
        refine ⟨HV.out.keeps hT (fun k hk => .inr hk) (by have := hit; omega), HV.out.keep4 hT (fun k hk => .inr hk), ?_⟩
        show TfQ w s b g r c ⟨(eraL M op (pre ++ [y])).1, cur, p, look, laid⟩ o vp vd q7 (eraL M op (pre ++ [y])).2 N (q + 1) Bk (q + 2) q p o.addr _
        rw [HST.out, he]
        exact K3.out.flip _
      | false =>
        cases Z2 with
        | false =>
          gi_wp2_with (refine ⟨trivial, ?_⟩; first
            | (gi_at_call 40; refine (CallsIn.inRound l (callsIn_wide.2 (at_is HV.out.t.a.br.pl HY.out))).mono ?_; rintro e w3 ⟨rfl, hb3⟩; simp only [Cl.val]; have K3 := Lib.hid (HV.out.below (hb3.trans (below_alloc w3 (.cells #[.int .u8 yb, .bool yg, .bool false, .int .u8 yl, .int .u8 yc] 45) |>.mono hb3.size))); have B3 := Lib.hid (hb3.trans ((below_alloc w3 (.cells #[.int .u8 yb, .bool yg, .bool false, .int .u8 yl, .int .u8 yc] 45)).mono hb3.size)); obtain ⟨v0, vf⟩ := one_of K3.out.qb; obtain ⟨g0, _⟩ := K3.out.t.a.br.cells; have gp := K3.out.t.a.pc; clear hb3)
            | skip)
          have he : eraStep (Z1, false) y = (Z1, false) := by unfold eraStep; simp only; rw [← HY.out]; rfl
          refine ⟨keepsB B3.out, HV.out.keep4 (S := fun _ => False) (Turn.of_below B3.out) (fun _ h => h.elim), ?_⟩
          show TfQ w s b g r c ⟨(eraL M op (pre ++ [y])).1, cur, p, look, laid⟩ o vp vd q7 (eraL M op (pre ++ [y])).2 N (q + 1) Bk (q + 2) q p o.addr _
          rw [HST.out, he]
          exact K3.out
        | true =>
          gi_wp2_with (refine ⟨trivial, ?_⟩; first
            | (gi_at_call 40; refine (CallsIn.inRound l (callsIn_wide.2 (at_is HV.out.t.a.br.pl HY.out))).mono ?_; rintro e w3 ⟨rfl, hb3⟩; simp only [Cl.val]; have K3 := Lib.hid (HV.out.below (hb3.trans (below_alloc w3 (.cells #[.int .u8 yb, .bool yg, .bool false, .int .u8 yl, .int .u8 yc] 45) |>.mono hb3.size))); have B3 := Lib.hid (hb3.trans ((below_alloc w3 (.cells #[.int .u8 yb, .bool yg, .bool false, .int .u8 yl, .int .u8 yc] 45)).mono hb3.size)); obtain ⟨v0, vf⟩ := one_of K3.out.qb; obtain ⟨g0, _⟩ := K3.out.t.a.br.cells; have gp := K3.out.t.a.pc; clear hb3)
            | (gi_at_call 49; refine (CallsIn.inRound l (callsIn_wide.2 (set_any K3.out.t.a.br.pl y c0))).mono ?_; rintro e w4 ⟨rfl, hp, ht⟩; have P4 := Lib.hid hp; have T4 := Lib.hid ht; clear hp ht)
            | skip)
          have he : eraStep (Z1, true) y = (setL Z1 y c0, true) := by unfold eraStep; simp only; rw [← HY.out]; rfl
          have hT4 : Turn (BrS s b g) W w4 := (Turn.of_below B3.out).trans (T4.out.mono fun k hk => .inr (.inr hk))
          have h4 := K3.out.step (K3.out.t.a.br.turn P4.out T4.out K3.out.t.a.br.ne.2 (setL_length _ _ _)) (T4.out.mono fun k hk => .inr (.inr hk)) (setL_length _ _ _)
          refine ⟨HV.out.keeps hT4 (fun k hk => .inl hk) (by have := hit; omega), HV.out.keep4 hT4 (fun k hk => .inl hk), ?_⟩
          show TfQ w s b g r c ⟨(eraL M op (pre ++ [y])).1, cur, p, look, laid⟩ o vp vd q7 (eraL M op (pre ++ [y])).2 N (q + 1) Bk (q + 2) q p o.addr _
          rw [HST.out, he]
          exact h4
    case done1 =>
      rintro D ys W hD rfl hT' hK
      have hr := HC.out
      unfold hasL at hr
      have hr2 := of_decide_eq_true hr
      have HV := Lib.hid hT'
      obtain ⟨x0, x1, x2, x3, x4, x5, x6, x7, xf⟩ := hT'.t.a.br.cells
      have xp := hT'.t.a.pc
      have o1 : W.cell? ⟨w.heap.size + 1, 1, none⟩ = some (.int .i64 o.addr) := by simp [World.cell?, hT'.ob]
      clear hT' hr x0 x2 x3 x4 x5 x6 x7
      gi_wp2
      have hm := HV.out.t.a.br.move o.addr hr2.1 (by show o.addr < ((eraL M op _).1.length : Int); rw [eraL_len]; exact hr2.2)
      have hA := HV.out.t.a.step hm ((turn_set W s 1 (.int .i64 o.addr)).mono fun k hk => .inl hk)
      have hK' : (W.setCell ⟨s, 1, none⟩ (.int .i64 o.addr)).heap[D]? = some (.deferred (some [])) := ((turn_set W s 1 (.int .i64 o.addr)).block D (lt_of_block hK) (by have h1 := HV.out.t.a.ls; unfold At; omega)).trans hK
      have hG := hA.grown (grownBy_putObj' _ D (.deferred none)) (fun r e => by cases e; exact ⟨by omega, _, hK', rfl⟩)
      refine ⟨by simp, .inl ⟨_, _, rfl, run_takeDeferred hK', ?_⟩⟩
      refine ⟨_, results_tmp rfl _ _ _, ?_⟩
      refine ⟨rfl, ?_, hG.tn⟩
      show BrAt _ s b g r c (Bs.erase ⟨M, cur, p, look, laid⟩ o.addr)
      unfold Bs.erase
      rw [HOPN.out]
      exact hG.br
    case stop1 =>
      rintro D c' pre W _ _ h _
      exact h.elim
theorem tab_any {w : World} {s b g : Nat} {r c : Int} {B : Bs} (h : BrAt w s b g r c B) (hbo : BoL B.M) (o : Or) (vp vd : Value) : Calls Try.prog 124 #[.pointer (some ⟨s, 0, none⟩), .agg (OV o vp vd)] w (OQ w s b g r c (B.tab, 0)) :=
  callsIn_wide.1 (by obtain ⟨M, cur, p, look, laid⟩ := B; exact tab_in h hbo o vp vd)
theorem erase_any {w : World} {s b g : Nat} {r c : Int} {B : Bs} (h : BrAt w s b g r c B) (hbo : BoL B.M) (o : Or) (vp vd : Value) : Calls Try.prog 127 #[.pointer (some ⟨s, 0, none⟩), .agg (OV o vp vd)] w (OQ w s b g r c (if hasL B.M o.addr then (B.erase o.addr, (0 : Int)) else (B, 32))) :=
  callsIn_wide.1 (by obtain ⟨M, cur, p, look, laid⟩ := B; exact erase_in h hbo o vp vd _ rfl)
end Go.Proofs.Ytglkjcdbffkbcaa.Pl
