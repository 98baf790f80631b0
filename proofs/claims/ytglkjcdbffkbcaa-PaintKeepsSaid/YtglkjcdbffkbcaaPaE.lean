/-
  The brush: the program tab.
-/
import Derived.Test.YtglkjcdbffkbcaaPaD
import Derived.Test.YtglkjcdbffkbcaaInRnd
import Derived.Sort.CutIn
namespace Go.Proofs.Ytglkjcdbffkbcaa.Pl
open Go.RowKit Go.Shelf Base
set_option linter.unusedVariables false
set_option linter.unusedSimpArgs false
attribute [local go_sem] Oper.semAt_some

/-- As range_gen, the frame behind the assignment being the frame ahead of it with some slots set. -/
theorem range_act {α : Type} {g : Operand} {ps : Array Tmp} {assign body : Code} {Q : Exit → Act → World → Prop} {a : Act} {w : World} {n : Nat} {F : Fence} {P : Program} (f : Array Value → α → Array Value)
    (hro : F.round = none) (h1 : 2 ≤ n) {gf : Nat} {lb : Array Value} (hg : a.eval g = .func (.func gf) #[] lb) (hFg : F.fn gf) (eg : ∀ args w, (callFunc gf args).run P w = .ok (.enter gf args) w)
    {encs : α → Array Value} {Kp : Nat → World → World → Prop} {S Sp : List α → Prop} {N M : Nat} {w0 : World} (hseq : SeqO F (n - 1) P gf lb encs Kp S Sp N M w0)
    (hKt : ∀ {A B C : World}, Kp (w.heap.size + 2) A B → Kp (w.heap.size + 2) B C → Kp (w.heap.size + 2) A C)
    (hKb : ∀ (W : World) (o o' : Obj), W.heap[w.heap.size + 1]? = some o → o.isCells = false → Kp (w.heap.size + 2) W (W.putObj (w.heap.size + 1) o'))
    (hb0 : Below w0.heap.size w0 w) (hps : ∀ x, (encs x).size = ps.size)
    (I : List α → World → Prop) (Ix : Code → List α → World → Prop) (hI : OwnFrom w.heap.size I) (hIx : ∀ c, OwnFrom w.heap.size (Ix c)) (h0 : I [] w)
    (hassign : ∀ (l : Nat) (pre : List α) (x : α) (W : World) (K : Act → World → Prop), I pre W → (∀ a' W', KeepsFrom w.heap.size W W' → Kp (w.heap.size + 2) W W' → I pre W' → a' = { tmps := f a.tmps x, defers := [] } → K a' W') →
      assign.wpIn (F.inRound l) (n - 1 - 1) P (Exit.then K (fun _ _ _ => False)) { tmps := (ps.zip (encs x)).foldl (fun t (p, v) => t.setIfInBounds p v) a.tmps, defers := [] } W)
    (hbody : ∀ (l : Nat) (pre : List α) (x : α) (a' : Act) (W : World), I pre W → a' = { tmps := f a.tmps x, defers := [] } → pre.length < N → w.heap.size + 2 + M ≤ W.heap.size → body.wpIn (F.inRound l) (n - 1 - 1) P (ownPostG w.heap.size (Kp (w.heap.size + 2)) I Ix (pre ++ [x]) W) a' W)
    (hdone : ∀ (D : Nat) (xs : List α) (W : World), w.heap.size ≤ D → S xs → I xs W → W.heap[D]? = some (.deferred (some [])) → Q .normal { a with defers := { target := .collected D, args := #[] } :: a.defers } W)
    (hstop : ∀ (D : Nat) (c : Code) (pre : List α) (W : World), w.heap.size ≤ D → Sp pre → Ix c pre W → W.heap[D]? = some (.deferred (some [])) → c.wpIn F n P Q { a with defers := { target := .collected D, args := #[] } :: a.defers } W) :
    (Code.rangeFunc g ps assign body).wpIn F n P Q a w :=
  range_gen hro h1 hg hFg eg hseq hKt hKb hb0 hps I Ix hI hIx h0 (fun x a' _ => a' = { tmps := f a.tmps x, defers := [] }) (fun _ _ _ _ _ _ h _ _ => h) hassign hbody hdone hstop
/-- The brush beside the box of its pointer. -/
structure TaQ (w : World) (s b g : Nat) (r c : Int) (B : Bs) (W : World) : Prop where
  br : BrAt W s b g r c B
  bx : W.heap[w.heap.size]? = some (.cells #[.pointer (some ⟨s, 0, none⟩)] 148 (0, 0))
  tn : Turn (BrS s b g) w W
  ls : s < w.heap.size
  lb : b < w.heap.size
  lg : g < w.heap.size
section
variable {w W W' : World} {s b g : Nat} {r c : Int} {B B' : Bs}
theorem TaQ.below (h : TaQ w s b g r c B W) (t : Below W.heap.size W W') : TaQ w s b g r c B W' :=
  ⟨h.br.below t, (t.block _ (lt_of_block h.bx)).trans h.bx, h.tn.trans (Turn.of_below t), h.ls, h.lb, h.lg⟩
theorem TaQ.drew (h : TaQ w s b g r c B W) : TaQ w s b g r c B W.drew := ⟨h.br.drew, h.bx, h.tn.drew, h.ls, h.lb, h.lg⟩
theorem TaQ.pc (h : TaQ w s b g r c B W) : W.cell? ⟨w.heap.size, 0, none⟩ = some (.pointer (some ⟨s, 0, none⟩)) := by simp [World.cell?, h.bx]
theorem TaQ.c3 (h : TaQ w s b g r c B W) : W.cell? ⟨w.heap.size, 0, none⟩ = some (.pointer (some ⟨s, 0, none⟩)) ∧ W.cell? ⟨s, 0, none⟩ = some (.pointer (some ⟨b, 0, none⟩)) ∧ W.cell? ⟨s, 1, none⟩ = some (.int .i64 B.p) :=
  ⟨h.pc, h.br.cells.1, h.br.cells.2.1⟩
theorem TaQ.c4 (h : TaQ w s b g r c B W) : W.cell? ⟨w.heap.size, 0, none⟩ = some (.pointer (some ⟨s, 0, none⟩)) ∧ W.cell? ⟨s, 0, none⟩ = some (.pointer (some ⟨b, 0, none⟩)) ∧ W.cell? ⟨s, 1, none⟩ = some (.int .i64 B.p) ∧ TaQ w s b g r c B W :=
  ⟨h.pc, h.br.cells.1, h.br.cells.2.1, h⟩
theorem TaQ.step (h : TaQ w s b g r c B W) (hb : BrAt W' s b g r c B') (t : Turn (BrS s b g) W W') : TaQ w s b g r c B' W' := by
  have h1 := h.ls
  have h2 := h.lb
  have h3 := h.lg
  exact ⟨hb, (t.block _ (lt_of_block h.bx) (by unfold BrS; omega)).trans h.bx, h.tn.trans t, h1, h2, h3⟩
theorem TaQ.grown {row : Option Nat} (h : TaQ w s b g r c B W) (hg : W.grownBy W' row) (hr : ∀ r, row = some r → w.heap.size ≤ r ∧ ∃ o : Obj, W.heap[r]? = some o ∧ o.isCells = false) : TaQ w s b g r c B W' := by
  have hr' : ∀ r, row = some r → ∃ o : Obj, W.heap[r]? = some o ∧ o.isCells = false := fun r e => (hr r e).2
  exact ⟨⟨h.br.pl.grown hg hr', (cells_kept h.br.bx hg hr').trans h.br.bx, h.br.p0, h.br.p1⟩, (cells_kept h.bx hg hr').trans h.bx, h.tn.grown hg (fun k e => .inl (hr k e).1), h.ls, h.lb, h.lg⟩
end
/-- The same beside an iterator over places. -/
structure TbQ (w : World) (s b g : Nat) (r c : Int) (B : Bs) (N bf bc bt bs : Nat) (a0 z : Int) (Ds : List Nat) (W : World) : Prop where
  a : TaQ w s b g r c B W
  it : BetIter N W bf bc bt bs a0 B.M.length z r c
  hi : w.heap.size < bf ∧ w.heap.size < bc ∧ w.heap.size < bt ∧ w.heap.size < bs
  hN : N ≤ W.heap.size
  ex : ∀ D ∈ Ds, w.heap.size < D ∧ D < N ∧ W.heap[D]? = some (.deferred (some []))
section
variable {w W W' : World} {s b g : Nat} {r c : Int} {B B' : Bs} {N bf bc bt bs : Nat} {a0 z : Int} {Ds : List Nat}
theorem TbQ.below (h : TbQ w s b g r c B N bf bc bt bs a0 z Ds W) (t : Below W.heap.size W W') : TbQ w s b g r c B N bf bc bt bs a0 z Ds W' :=
  ⟨h.a.below t, h.it.below (t.mono h.hN), h.hi, Nat.le_trans h.hN t.size, fun D hD => by obtain ⟨e1, e2, e3⟩ := h.ex D hD; exact ⟨e1, e2, (t.block D (by have := h.hN; omega)).trans e3⟩⟩
theorem TbQ.itw (h : TbQ w s b g r c B N bf bc bt bs a0 z Ds W) : BetIter W.heap.size W bf bc bt bs a0 B.M.length z r c := by
  obtain ⟨⟨h1, h2, h3, h4⟩, h5⟩ := h.it
  have := h.hN
  exact ⟨⟨by omega, by omega, by omega, by omega⟩, h5⟩
theorem TbQ.keepTurn {S : Nat → Prop} (h : TbQ w s b g r c B N bf bc bt bs a0 z Ds W) (t : Turn S W W') (hS : ∀ k, S k → k ≤ w.heap.size) : Keep4 bf bc bt bs W W' := by
  obtain ⟨⟨h1, h2, h3, h4⟩, h5⟩ := h.it
  obtain ⟨g1, g2, g3, g4⟩ := h.hi
  have := h.hN
  refine keep4_of_turn t ⟨by omega, fun k => ?_⟩ ⟨by omega, fun k => ?_⟩ ⟨by omega, fun k => ?_⟩ ⟨by omega, fun k => ?_⟩ <;> (have := hS _ k; omega)
theorem TbQ.keepPut {k : Nat} {X : World} {o o' : Obj} (h : TbQ w s b g r c B N bf bc bt bs a0 z Ds W) (ho : X.heap[W.heap.size + k]? = some o) : Keep4 bf bc bt bs X (X.putObj (W.heap.size + k) o') := by
  obtain ⟨⟨h1, h2, h3, h4⟩, h5⟩ := h.it
  have h6 := h.hN
  have h7 := lt_of_block ho
  refine ⟨(grownBy_putObj' X (W.heap.size + k) o').size, fun j hj => (grownBy_putObj' X (W.heap.size + k) o').block j ?_ ?_⟩
  · rcases hj with rfl | rfl | rfl | rfl <;> omega
  · intro e; cases e
    rcases hj with hj | hj | hj | hj <;> omega
theorem TbQ.grown {row : Option Nat} (h : TbQ w s b g r c B N bf bc bt bs a0 z Ds W) (hg : W.grownBy W' row) (hr : ∀ r, row = some r → N ≤ r ∧ ∃ o : Obj, W.heap[r]? = some o ∧ o.isCells = false) : TbQ w s b g r c B N bf bc bt bs a0 z Ds W' := by
  obtain ⟨⟨h1, h2, h3, h4⟩, h5⟩ := h.it
  obtain ⟨g1, g2, g3, g4⟩ := h.hi
  have hN := h.hN
  refine ⟨h.a.grown hg (fun r e => ⟨by have := (hr r e).1; omega, (hr r e).2⟩), h.it.keep ⟨hg.size, fun k hk => hg.block k (by rcases hk with rfl | rfl | rfl | rfl <;> omega) (fun e => by have := (hr k e.symm).1; rcases hk with rfl | rfl | rfl | rfl <;> omega)⟩, h.hi, Nat.le_trans hN hg.size, fun D hD => ?_⟩
  obtain ⟨e1, e2, e3⟩ := h.ex D hD
  exact ⟨e1, e2, (hg.block D (by omega) (fun e => by have := (hr D e.symm).1; omega)).trans e3⟩
/-- What belongs to the brush is turned. -/
theorem TbQ.step (h : TbQ w s b g r c B N bf bc bt bs a0 z Ds W) (hb : BrAt W' s b g r c B') (t : Turn (BrS s b g) W W') (hl : B'.M.length = B.M.length) : TbQ w s b g r c B' N bf bc bt bs a0 z Ds W' := by
  have h1 := h.a.ls
  have h2 := h.a.lb
  have h3 := h.a.lg
  refine ⟨h.a.step hb t, ?_, h.hi, Nat.le_trans h.hN t.size, fun D hD => ?_⟩
  rotate_left
  · obtain ⟨e1, e2, e3⟩ := h.ex D hD
    exact ⟨e1, e2, (t.block D (by have := h.hN; omega) (by unfold BrS; omega)).trans e3⟩
  rw [hl]
  exact h.it.keep (h.keepTurn t (fun k hk => by unfold BrS at hk; omega))
/-- A later world's beginning as the bound, one more deferred list beside it. -/
theorem TbQ.more (h : TbQ w s b g r c B N bf bc bt bs a0 z [] W) {D : Nat} (h1 : w.heap.size < D) (h2 : W.heap[D]? = some (.deferred (some []))) : TbQ w s b g r c B W.heap.size bf bc bt bs a0 z [D] W :=
  ⟨h.a, h.itw, h.hi, Nat.le_refl _, fun D' hD => by rw [List.mem_singleton.1 hD]; exact ⟨h1, lt_of_block h2, h2⟩⟩
theorem TbQ.keeps (h : TbQ w s b g r c B N bf bc bt bs a0 z Ds W) (t : Turn (BrS s b g) W W') {D : Nat} (hD : w.heap.size ≤ D) : KeepsFrom D W W' := by
  have h1 := h.a.ls
  have h2 := h.a.lb
  have h3 := h.a.lg
  exact keeps_of_turn t (fun k hk => by unfold BrS at hk; omega)
end
theorem atL_setL' (L : List Cl) (s : Int) (x : Cl) (i : Int) : atL (setL L s x) i = if i = s ∧ 0 ≤ s ∧ s < L.length then x else atL L i := by
  by_cases h : i = s ∧ 0 ≤ s ∧ s < L.length
  · obtain ⟨rfl, h0, h1⟩ := h
    rw [if_pos ⟨rfl, h0, h1⟩]
    have e : setL L i x = L.set i.toNat x := by unfold setL; rw [if_pos ⟨h0, h1⟩]
    rw [e]
    unfold atL
    rw [if_pos (by rw [List.length_set]; exact ⟨h0, h1⟩), List.getElem?_set_self (by omega)]
    rfl
  · rw [if_neg h]
    unfold setL
    split
    · next hs =>
      unfold atL
      rw [List.length_set]
      split
      · next hi =>
        rw [List.getElem?_set_ne (by intro e; exact h ⟨by omega, hs.1, hs.2⟩)]
      · rfl
    · rfl
theorem setL_bo {M : List Cl} (h : BoL M) (i : Int) {x : Cl} (hx : 0 ≤ x.b ∧ x.b ≤ 255) : BoL (setL M i x) := by
  intro j; rw [atL_setL']; split
  · exact hx
  · exact h j
theorem fillL_bo {M : List Cl} (h : BoL M) (ps : List Int) : BoL (fillL M ps c0) := by
  induction ps generalizing M with
  | nil => exact h
  | cons p ps ih => exact ih (setL_bo h p (by decide))
theorem tabTo_none {M : List Cl} {ps : List Int} (h : ∀ y ∈ ps, tabGood M y = false) : tabTo M ps = 0 := by
  unfold tabTo
  rw [List.find?_eq_none.2 (fun y hy => by rw [h y hy]; simp)]
theorem tabTo_hit {M : List Cl} {ps pre : List Int} {x : Int} (hp : pre ++ [x] <+: ps) (hno : ∀ y ∈ pre, tabGood M y = false) (hx : tabGood M x = true) : tabTo M ps = mv M.length x 1 := by
  obtain ⟨t, rfl⟩ := hp
  unfold tabTo
  rw [List.append_assoc, List.find?_append, List.find?_eq_none.2 (fun y hy => by rw [hno y hy]; simp)]
  simp [hx]
theorem tab_stop {w W W4 : World} {s b g : Nat} {r c : Int} {MM : List Cl} {cur x : Int} {look : Cl} {laid : Bool} {N bf bc bt bs D : Nat} {a0 z : Int} {Ds : List Nat} {pre : List Int} (h : TbQ w s b g r c ⟨MM, cur, 0, look, laid⟩ N bf bc bt bs a0 z Ds W4) (hb : Below W.heap.size W W4)
    (hno : ∀ y ∈ pre, tabGood MM y = false) (hx : tabGood MM x = true) (hD : w.heap.size ≤ D) (hl : 0 < MM.length) :
    KeepsFrom D W (W4.setCell ⟨s, 1, none⟩ (.int .i64 (mv MM.length x 1))) ∧ Code.exit 2 = Code.exit 2 ∧ ∃ pre' x', pre ++ [x] = pre' ++ [x'] ∧ (∀ y ∈ pre', tabGood MM y = false) ∧ tabGood MM x' = true ∧
      TbQ w s b g r c ⟨MM, cur, mv MM.length x' 1, look, laid⟩ N bf bc bt bs a0 z Ds (W4.setCell ⟨s, 1, none⟩ (.int .i64 (mv MM.length x 1))) := by
  have hm := mv_bd (n := (MM.length : Int)) (a := x) (b := 1) (by omega)
  have hs := turn_set W4 s 1 (.int .i64 (mv MM.length x 1))
  have hls := h.a.ls
  refine ⟨?_, rfl, pre, x, rfl, hno, hx, h.step (h.a.br.move _ hm.1 hm.2) (hs.mono fun k hk => .inl hk) rfl⟩
  exact keeps_of_turn (S := At s) ((Turn.of_below hb).trans hs) (fun k hk => by rw [show k = s from hk]; omega)
set_option maxRecDepth 100000 in
set_option maxHeartbeats 8000000 in
theorem tab_in {w : World} {s b g : Nat} {r c : Int} {M : List Cl} {cur p : Int} {look : Cl} {laid : Bool} (h : BrAt w s b g r c ⟨M, cur, p, look, laid⟩) (hbo : BoL M) (o : Or) (vp vd : Value) :
    CallsIn Fence.wide 3 Try.prog 124 #[.pointer (some ⟨s, 0, none⟩), .agg (OV o vp vd)] w (OQ w s b g r c ((⟨M, cur, p, look, laid⟩ : Bs).tab, 0)) := by
  have hn : Hid (cells r c = M.length) := h.pl.size
  have hmost := h.pl.most
  have hpos := h.pl.pos
  have h0 : TaQ w s b g r c ⟨M, cur, p, look, laid⟩ ((w.alloc (.cells #[.pointer (some ⟨s, 0, none⟩)] 148)).alloc (.cells #[.int .u8 o.kind, .int .i64 o.addr, .int .u8 o.byte, .bool o.ge, vp, vd] 73)) :=
    ((TaQ.mk (h.below (below_alloc w _)) (heap_alloc_new w _) (Turn.of_below (below_alloc w _)) h.lt h.pl.lt h.pl.ltg)).below (below_alloc _ _)
  obtain ⟨W0, hW0⟩ : ∃ W0, W0 = (w.alloc (.cells #[.pointer (some ⟨s, 0, none⟩)] 148)).alloc (.cells #[.int .u8 o.kind, .int .i64 o.addr, .int .u8 o.byte, .bool o.ge, vp, vd] 73) := ⟨_, rfl⟩
  have hsz0 : W0.heap.size = w.heap.size + 2 := by rw [hW0]; simp
  rw [← hW0] at h0
  have HW0 := Lib.hid hW0.symm
  have H0 := Lib.hid h0
  clear h h0 hW0
  refine callsIn_of_wp_marks Try.func124 rfl trivial ?_ rfl
  simp only [Try.ntmps124, List.size_toArray, List.length_cons, List.length_nil, Nat.reduceAdd, Nat.reduceSub, Array.replicate_succ, Array.replicate_zero, List.push_toArray, List.append_toArray, List.nil_append, List.cons_append]
  gi_upto_region 1 with fail
  rw [HW0.out]
  gi_cut [5] from 9 (fun v X => ∃ N q Bk, v = .func (.func 136) #[] #[.pointer (some ⟨q + 1, 0, none⟩), .pointer (some ⟨Bk, 0, none⟩), .pointer (some ⟨q + 2, 0, none⟩), .pointer (some ⟨q, 0, none⟩)] ∧ TbQ w s b g r c ⟨M, cur, p, look, laid⟩ N (q + 1) Bk (q + 2) q p 0 [] X)
  case first =>
    refine wpIn_wide.2 ?_
    first
      | (go_region_held3 (fun X => X.cell? ⟨w.heap.size, 0, none⟩ = some (.pointer (some ⟨s, 0, none⟩)) ∧ X.cell? ⟨s, 0, none⟩ = some (.pointer (some ⟨b, 0, none⟩)) ∧ X.cell? ⟨s, 1, none⟩ = some (.int .i64 p) ∧ TaQ w s b g r c ⟨M, cur, p, look, laid⟩ X)
          (with_reducible (first | assumption | exact TaQ.c4 H0.out.drew | exact TaQ.c4 H0.out | exact TaQ.c4 (by assumption)))
          (first
            | (go_at_call 76; refine (size_any H0.out.drew.br.pl).mono ?_; rintro e w1 ⟨rfl, hb1⟩; have H1 := H0.out.drew.below hb1; have hz1 := hb1.size; clear hb1)
            | (go_at_call 110; refine (between_any r c p 0 M.length w1 hn).mono ?_; rintro e w2 ⟨Bk, rfl, hI, hb2, hBB⟩; have H2 := H1.below hb2; have HI := Lib.hid hI; have hz2 := hb2.size; clear hI hb2)))
      | fail
    gi_wp2_with fail
    have hzz : w.heap.size + 2 ≤ w1.heap.size := by have : W0.drew.heap.size = W0.heap.size := rfl; omega
    gi_meet
    case rel => exact ⟨w2.heap.size, w1.heap.size, Bk, rfl, H2, HI.out, ⟨by omega, by omega, by omega, by omega⟩, Nat.le_refl _, fun _ h => by cases h⟩
  case rest =>
  obtain ⟨N, q, Bk, rfl, hT⟩ := hcut
  have HT := Lib.hid hT
  clear hT H0
  cases laid with
  | false =>
    obtain ⟨q0, q1, q2, q3, q4, q5, q6, q7, qf⟩ := HT.out.a.br.cells
    have qp := HT.out.a.pc
    clear q2 q3 q4 q5 q6
    gi_wp2_with fail
    have HT2 := Lib.hid (HT.out.step (HT.out.a.br.move 0 (Int.le_refl 0) (by show (0 : Int) < (M.length : Int); omega)) ((turn_set wc s 1 (.int .i64 0)).mono fun k hk => .inl hk) rfl)
    have hNX := HT.out.a.tn.size
    clear HT q0 q1 q7 qf qp
    have hNN := HT2.out.hN
    have hNW := HT2.out.a.tn.size
    have HBM := Lib.hid hbo
    have HNM : Hid (Hid (cells r c = M.length)) := Lib.hid hn
    have HML : Hid (M.length = M.length ∧ M.length ≤ 4096 ∧ 1 ≤ M.length) := ⟨rfl, hmost, hpos⟩
    refine range_act (α := Int) (f := fun t x => (t.setIfInBounds 43 (.int .i64 x)).setIfInBounds 7 (.int .i64 x)) rfl (by omega) (gf := 136) rfl trivial (enters_of Try.func136 (by kernel_rfl) rfl)
      (SeqO.of_stops (betw_stops2 2 (by omega) _ _ _ _ p M.length 0 r c HNM.out _ (HT2.out.itw)) (fun h => h.1)) Keep4.trans ?hKb2 (Below.refl _ _) (fun _ => rfl)
      (fun pre W => TbQ w s b g r c ⟨M, cur, 0, look, false⟩ N (q + 1) Bk (q + 2) q p 0 [] W ∧ ∀ y ∈ pre, tabGood M y = false)
      (fun c' pre W => c' = .exit 2 ∧ ∃ pre' x, pre = pre' ++ [x] ∧ (∀ y ∈ pre', tabGood M y = false) ∧ tabGood M x = true ∧ TbQ w s b g r c ⟨M, cur, mv M.length x 1, look, false⟩ N (q + 1) Bk (q + 2) q p 0 [] W)
      (fun s' X Y row h hg hr => ⟨h.1.grown hg (fun r e => ⟨by have := (hr r e).1; omega, (hr r e).2⟩), h.2⟩)
      (fun c' s' X Y row h hg hr => by obtain ⟨h1, pre', x, h2, h3, h4, h5⟩ := h; exact ⟨h1, pre', x, h2, h3, h4, h5.grown hg (fun r e => ⟨by have := (hr r e).1; omega, (hr r e).2⟩)⟩)
      ⟨HT2.out, by simp⟩ ?assign2 ?body2 ?done2 ?stop2
    case hKb2 => exact fun W o o' ho hc => HT2.out.keepPut ho
    case assign2 =>
      intro l pre x W K hI' hK
      have HK := Lib.hid hK
      clear hK
      gi_wp2
      exact HK.out _ _ (KeepsFrom.refl _ _) (Keep4.refl _ _ _ _ _) hI' rfl
    case body2 =>
      rintro l pre y a' W ⟨hT', hno⟩ rfl hlt hWs
      simp only [List.setIfInBounds_toArray, List.set_cons_zero, List.set_cons_succ]
      rw [Nat.add_zero] at hWs
      have HV := Lib.hid hT'
      have hlt4 : pre.length < 4096 := by have := betw_length M.length p 0 (by have := HML.out; omega); omega
      obtain ⟨x0, x1, x2, x3, x4, x5, x6, x7, xf⟩ := hT'.a.br.cells
      have xp := hT'.a.pc
      obtain ⟨⟨yb, yg, ys, yl, yc⟩, hy⟩ : ∃ z, z = atL M y := ⟨_, rfl⟩
      have hbz := hbo y
      have hMM : BoL M := HBM.out
      have hby := hMM y
      rw [← hy] at hby
      simp only at hby
      have HY := Lib.hid hy
      clear hT' hlt hbz hMM hy x2 x3 x4 x5 x6 x7
      cases ys with
      | false =>
        have hng : tabGood M y = false := by unfold tabGood; rw [← HY.out]; rfl
        have HNG := Lib.hid hng
        have HNO := Lib.hid hno
        clear hng hno
        gi_wp2_with (refine ⟨trivial, ?_⟩; first | (gi_at_call 40; refine (CallsIn.inRound l (callsIn_wide.2 (at_is HV.out.a.br.pl HY.out))).mono ?_; rintro e w3 ⟨rfl, hb3⟩; simp only [Cl.val]; have K3 := Lib.hid (HV.out.below (hb3.trans (below_alloc w3 (.cells #[.int .u8 yb, .bool yg, .bool false, .int .u8 yl, .int .u8 yc] 45) |>.mono hb3.size))); have B3 := Lib.hid (hb3.trans ((below_alloc w3 (.cells #[.int .u8 yb, .bool yg, .bool false, .int .u8 yl, .int .u8 yc] 45)).mono hb3.size)); clear hb3) | skip)
        exact ⟨keepsB B3.out, HV.out.keepTurn (S := fun _ => False) (Turn.of_below B3.out) (fun _ h => h.elim), K3.out, fun z hz => by rcases List.mem_append.1 hz with h | h; exact HNO.out z h; rw [List.mem_singleton.1 h]; exact HNG.out⟩
      | true =>
        have HNO := Lib.hid hno
        clear hno
        cases hpr : Attr.prot yb with
        | true =>
          have HPR := Lib.hid hpr
          have hng : tabGood M y = false := by unfold tabGood; rw [← HY.out]; simp [hpr]
          have HNG := Lib.hid hng
          clear hng hpr
          gi_wp2_with (refine ⟨trivial, ?_⟩; first
            | (gi_at_call 40; refine (CallsIn.inRound l (callsIn_wide.2 (at_is HV.out.a.br.pl HY.out))).mono ?_; rintro e w3 ⟨rfl, hb3⟩; simp only [Cl.val]; have K3 := Lib.hid (HV.out.below (hb3.trans (below_alloc w3 (.cells #[.int .u8 yb, .bool yg, .bool true, .int .u8 yl, .int .u8 yc] 45) |>.mono hb3.size))); have B3 := Lib.hid (hb3.trans ((below_alloc w3 (.cells #[.int .u8 yb, .bool yg, .bool true, .int .u8 yl, .int .u8 yc] 45)).mono hb3.size)); clear hb3)
            | (gi_at_call 55; refine (CallsIn.inRound l (callsIn_wide.2 (Attr.protected_any yb _ hby.1 hby.2))).mono ?_; rintro e w4 ⟨he, rfl⟩; rw [HPR.out] at he; subst he)
            | skip)
          exact ⟨keepsB B3.out, HV.out.keepTurn (S := fun _ => False) (Turn.of_below B3.out) (fun _ h => h.elim), K3.out, fun z hz => by rcases List.mem_append.1 hz with h | h; exact HNO.out z h; rw [List.mem_singleton.1 h]; exact HNG.out⟩
        | false =>
          have HPR := Lib.hid hpr
          have hng : tabGood M y = true := by unfold tabGood; rw [← HY.out]; simp [hpr]
          have HNG := Lib.hid hng
          clear hng hpr
          gi_upto_region 12 with (refine ⟨trivial, ?_⟩; first
            | (gi_at_call 40; refine (CallsIn.inRound l (callsIn_wide.2 (at_is HV.out.a.br.pl HY.out))).mono ?_; rintro e w3 ⟨rfl, hb3⟩; simp only [Cl.val]; have K3 := Lib.hid (HV.out.below (hb3.trans (below_alloc w3 (.cells #[.int .u8 yb, .bool yg, .bool true, .int .u8 yl, .int .u8 yc] 45) |>.mono hb3.size))); have B3 := Lib.hid (hb3.trans ((below_alloc w3 (.cells #[.int .u8 yb, .bool yg, .bool true, .int .u8 yl, .int .u8 yc] 45)).mono hb3.size)); clear hb3)
            | (gi_at_call 55; refine (CallsIn.inRound l (callsIn_wide.2 (Attr.protected_any yb _ hby.1 hby.2))).mono ?_; rintro e w4 ⟨he, rfl⟩; rw [HPR.out] at he; subst he)
            | skip)
          obtain ⟨v0, v1, _⟩ := K3.out.a.br.cells
          have vp := K3.out.a.pc
          obtain ⟨W3, hW3⟩ : ∃ W3, W3 = w3.alloc (.cells #[.int .u8 yb, .bool yg, .bool true, .int .u8 yl, .int .u8 yc] 45) := ⟨_, rfl⟩
          rw [← hW3] at K3 B3 v0 v1 vp ⊢
          clear hW3 x0 x1 xf xp
          refine region_round (by kernel_rfl) (by kernel_rfl) ?_
          refine wpAnyIn_take (i := 2) (oi := { dst := some 60, op := Op.move (Operand.tmp 7), type := 3, pos := "paint.go:157", after := #[], guard := none }) (v := ?_) rfl rfl (by kernel_rfl) (by kernel_rfl) (by kernel_rfl) (fun _ _ _ h => h) ⟨Or.inl ⟨by rfl, ?_⟩, fun _ => rfl⟩ ?_
          rotate_left
          focus (intro w; go_simp; try (with_reducible rfl))
          try simp only [Act.put, List.setIfInBounds_toArray, List.set_cons_zero, List.set_cons_succ]
          refine wpAnyIn_ready (rs := [0, 1]) (by kernel_rfl) (by simp) (AllReadyIn.cons (o := { dst := some 58, op := Op.load 148 (Operand.tmp 2), type := 148, pos := "paint.go:157", after := #[], guard := none }) rfl (fun K hK => ?_) (AllReadyIn.cons (o := { dst := some 59, op := Op.load 148 (Operand.tmp 2), type := 148, pos := "paint.go:157", after := #[], guard := none }) rfl (fun K hK => ?_) AllReadyIn.nil))
          · go_simp
            refine hK _ _ ?_
            clear hK K
            try simp only [Act.put, List.setIfInBounds_toArray, List.set_cons_zero, List.set_cons_succ]
            refine wpAnyIn_ready (rs := [1]) (by kernel_rfl) (by simp) (AllReadyIn.cons (o := { dst := some 59, op := Op.load 148 (Operand.tmp 2), type := 148, pos := "paint.go:157", after := #[], guard := none }) rfl (fun K hK => ?_) AllReadyIn.nil)
            go_simp
            refine hK _ _ ?_
            clear hK K
            try simp only [Act.put, List.setIfInBounds_toArray, List.set_cons_zero, List.set_cons_succ]
            refine wpAnyIn_ready (rs := [3]) (by kernel_rfl) (by simp) (AllReadyIn.cons (o := { dst := some 61, op := Op.call { callee := Callee.value (Operand.func 145), args := #[Operand.tmp 59, Operand.tmp 60], argTypes := #[148, 3] }, type := 3, pos := "paint.go:157", after := #[{ on := 1, ground := Ground.data }, { on := 2, ground := Ground.data }], guard := none }) rfl (fun K hK => ?_) AllReadyIn.nil)
            go_simp
            (try refine ⟨trivial, ?_⟩)
            gi_at_call 145
            refine (callsIn_wide.2 (behind_any K3.out.a.br.drew y)).mono ?_
            rintro e w4 ⟨rfl, hb4⟩
            have hb4 := below_undrew hb4
            have K4 := Lib.hid (K3.out.below hb4)
            have B4 := Lib.hid hb4
            obtain ⟨v0, v1, v2, v3, v4, v5, v6, v7, vf⟩ := K4.out.a.br.cells
            have vp := K4.out.a.pc
            clear hb4 v2 v3 v4 v5 v6 v7
            refine hK _ _ ?_
            clear hK K
            try simp only [Act.put, List.setIfInBounds_toArray, List.set_cons_zero, List.set_cons_succ]
            refine wpAnyIn_ready (rs := [4]) (by kernel_rfl) (by simp) (AllReadyIn.cons (o := { dst := some 62, op := Op.nilCheck (Operand.tmp 58), type := 0, pos := "paint.go:157", after := #[{ on := 0, ground := Ground.data }, { on := 0, ground := Ground.phase }, { on := 1, ground := Ground.phase }, { on := 2, ground := Ground.phase }, { on := 3, ground := Ground.phase }], guard := none }) rfl (fun K hK => ?_) AllReadyIn.nil)
            go_simp
            refine hK _ _ ?_
            clear hK K
            try simp only [Act.put, List.setIfInBounds_toArray, List.set_cons_zero, List.set_cons_succ]
            refine wpAnyIn_ready (rs := [5]) (by kernel_rfl) (by simp) (AllReadyIn.cons (o := { dst := some 63, op := Op.fieldAddr 117 (Operand.tmp 62) 1, type := 0, pos := "paint.go:157", after := #[{ on := 4, ground := Ground.data }, { on := 0, ground := Ground.phase }, { on := 1, ground := Ground.phase }, { on := 2, ground := Ground.phase }, { on := 3, ground := Ground.phase }], guard := none }) rfl (fun K hK => ?_) AllReadyIn.nil)
            go_simp
            refine hK _ _ ?_
            clear hK K
            try simp only [Act.put, List.setIfInBounds_toArray, List.set_cons_zero, List.set_cons_succ]
            refine wpAnyIn_ready (rs := [6]) (by kernel_rfl) (by simp) (AllReadyIn.cons (o := { dst := none, op := Op.store 3 (Operand.tmp 63) (Operand.tmp 61), type := 0, pos := "paint.go:157", after := #[{ on := 5, ground := Ground.data }, { on := 3, ground := Ground.data }, { on := 3, ground := Ground.chain }, { on := 0, ground := Ground.phase }, { on := 1, ground := Ground.phase }, { on := 2, ground := Ground.phase }, { on := 3, ground := Ground.phase }], guard := none }) rfl (fun K hK => ?_) AllReadyIn.nil)
            go_simp
            refine hK _ _ ?_
            clear hK K
            try simp only [Act.put, List.setIfInBounds_toArray, List.set_cons_zero, List.set_cons_succ]
            refine wpAnyIn_done (by kernel_rfl) ?_ _
            gi_wp2_with fail
            exact tab_stop K4.out (B3.out.trans (B4.out.mono B3.out.size)) HNO.out HNG.out (by omega) (by have := HML.out; omega)
          · go_simp
            refine hK _ _ ?_
            clear hK K
            try simp only [Act.put, List.setIfInBounds_toArray, List.set_cons_zero, List.set_cons_succ]
            refine wpAnyIn_ready (rs := [0, 3]) (by kernel_rfl) (by simp) (AllReadyIn.cons (o := { dst := some 58, op := Op.load 148 (Operand.tmp 2), type := 148, pos := "paint.go:157", after := #[], guard := none }) rfl (fun K hK => ?_) (AllReadyIn.cons (o := { dst := some 61, op := Op.call { callee := Callee.value (Operand.func 145), args := #[Operand.tmp 59, Operand.tmp 60], argTypes := #[148, 3] }, type := 3, pos := "paint.go:157", after := #[{ on := 1, ground := Ground.data }, { on := 2, ground := Ground.data }], guard := none }) rfl (fun K hK => ?_) AllReadyIn.nil))
            · go_simp
              refine hK _ _ ?_
              clear hK K
              try simp only [Act.put, List.setIfInBounds_toArray, List.set_cons_zero, List.set_cons_succ]
              refine wpAnyIn_ready (rs := [3]) (by kernel_rfl) (by simp) (AllReadyIn.cons (o := { dst := some 61, op := Op.call { callee := Callee.value (Operand.func 145), args := #[Operand.tmp 59, Operand.tmp 60], argTypes := #[148, 3] }, type := 3, pos := "paint.go:157", after := #[{ on := 1, ground := Ground.data }, { on := 2, ground := Ground.data }], guard := none }) rfl (fun K hK => ?_) AllReadyIn.nil)
              go_simp
              (try refine ⟨trivial, ?_⟩)
              gi_at_call 145
              refine (callsIn_wide.2 (behind_any K3.out.a.br.drew y)).mono ?_
              rintro e w4 ⟨rfl, hb4⟩
              have hb4 := below_undrew hb4
              have K4 := Lib.hid (K3.out.below hb4)
              have B4 := Lib.hid hb4
              obtain ⟨v0, v1, v2, v3, v4, v5, v6, v7, vf⟩ := K4.out.a.br.cells
              have vp := K4.out.a.pc
              clear hb4 v2 v3 v4 v5 v6 v7
              refine hK _ _ ?_
              clear hK K
              try simp only [Act.put, List.setIfInBounds_toArray, List.set_cons_zero, List.set_cons_succ]
              refine wpAnyIn_ready (rs := [4]) (by kernel_rfl) (by simp) (AllReadyIn.cons (o := { dst := some 62, op := Op.nilCheck (Operand.tmp 58), type := 0, pos := "paint.go:157", after := #[{ on := 0, ground := Ground.data }, { on := 0, ground := Ground.phase }, { on := 1, ground := Ground.phase }, { on := 2, ground := Ground.phase }, { on := 3, ground := Ground.phase }], guard := none }) rfl (fun K hK => ?_) AllReadyIn.nil)
              go_simp
              refine hK _ _ ?_
              clear hK K
              try simp only [Act.put, List.setIfInBounds_toArray, List.set_cons_zero, List.set_cons_succ]
              refine wpAnyIn_ready (rs := [5]) (by kernel_rfl) (by simp) (AllReadyIn.cons (o := { dst := some 63, op := Op.fieldAddr 117 (Operand.tmp 62) 1, type := 0, pos := "paint.go:157", after := #[{ on := 4, ground := Ground.data }, { on := 0, ground := Ground.phase }, { on := 1, ground := Ground.phase }, { on := 2, ground := Ground.phase }, { on := 3, ground := Ground.phase }], guard := none }) rfl (fun K hK => ?_) AllReadyIn.nil)
              go_simp
              refine hK _ _ ?_
              clear hK K
              try simp only [Act.put, List.setIfInBounds_toArray, List.set_cons_zero, List.set_cons_succ]
              refine wpAnyIn_ready (rs := [6]) (by kernel_rfl) (by simp) (AllReadyIn.cons (o := { dst := none, op := Op.store 3 (Operand.tmp 63) (Operand.tmp 61), type := 0, pos := "paint.go:157", after := #[{ on := 5, ground := Ground.data }, { on := 3, ground := Ground.data }, { on := 3, ground := Ground.chain }, { on := 0, ground := Ground.phase }, { on := 1, ground := Ground.phase }, { on := 2, ground := Ground.phase }, { on := 3, ground := Ground.phase }], guard := none }) rfl (fun K hK => ?_) AllReadyIn.nil)
              go_simp
              refine hK _ _ ?_
              clear hK K
              try simp only [Act.put, List.setIfInBounds_toArray, List.set_cons_zero, List.set_cons_succ]
              refine wpAnyIn_done (by kernel_rfl) ?_ _
              gi_wp2_with fail
              exact tab_stop K4.out (B3.out.trans (B4.out.mono B3.out.size)) HNO.out HNG.out (by omega) (by have := HML.out; omega)
            · go_simp
              (try refine ⟨trivial, ?_⟩)
              gi_at_call 145
              refine (callsIn_wide.2 (behind_any K3.out.a.br.drew y)).mono ?_
              rintro e w4 ⟨rfl, hb4⟩
              have hb4 := below_undrew hb4
              have K4 := Lib.hid (K3.out.below hb4)
              have B4 := Lib.hid hb4
              obtain ⟨v0, v1, v2, v3, v4, v5, v6, v7, vf⟩ := K4.out.a.br.cells
              have vp := K4.out.a.pc
              clear hb4 v2 v3 v4 v5 v6 v7
              refine hK _ _ ?_
              clear hK K
              try simp only [Act.put, List.setIfInBounds_toArray, List.set_cons_zero, List.set_cons_succ]
              refine wpAnyIn_ready (rs := [0]) (by kernel_rfl) (by simp) (AllReadyIn.cons (o := { dst := some 58, op := Op.load 148 (Operand.tmp 2), type := 148, pos := "paint.go:157", after := #[], guard := none }) rfl (fun K hK => ?_) AllReadyIn.nil)
              go_simp
              refine hK _ _ ?_
              clear hK K
              try simp only [Act.put, List.setIfInBounds_toArray, List.set_cons_zero, List.set_cons_succ]
              refine wpAnyIn_ready (rs := [4]) (by kernel_rfl) (by simp) (AllReadyIn.cons (o := { dst := some 62, op := Op.nilCheck (Operand.tmp 58), type := 0, pos := "paint.go:157", after := #[{ on := 0, ground := Ground.data }, { on := 0, ground := Ground.phase }, { on := 1, ground := Ground.phase }, { on := 2, ground := Ground.phase }, { on := 3, ground := Ground.phase }], guard := none }) rfl (fun K hK => ?_) AllReadyIn.nil)
              go_simp
              refine hK _ _ ?_
              clear hK K
              try simp only [Act.put, List.setIfInBounds_toArray, List.set_cons_zero, List.set_cons_succ]
              refine wpAnyIn_ready (rs := [5]) (by kernel_rfl) (by simp) (AllReadyIn.cons (o := { dst := some 63, op := Op.fieldAddr 117 (Operand.tmp 62) 1, type := 0, pos := "paint.go:157", after := #[{ on := 4, ground := Ground.data }, { on := 0, ground := Ground.phase }, { on := 1, ground := Ground.phase }, { on := 2, ground := Ground.phase }, { on := 3, ground := Ground.phase }], guard := none }) rfl (fun K hK => ?_) AllReadyIn.nil)
              go_simp
              refine hK _ _ ?_
              clear hK K
              try simp only [Act.put, List.setIfInBounds_toArray, List.set_cons_zero, List.set_cons_succ]
              refine wpAnyIn_ready (rs := [6]) (by kernel_rfl) (by simp) (AllReadyIn.cons (o := { dst := none, op := Op.store 3 (Operand.tmp 63) (Operand.tmp 61), type := 0, pos := "paint.go:157", after := #[{ on := 5, ground := Ground.data }, { on := 3, ground := Ground.data }, { on := 3, ground := Ground.chain }, { on := 0, ground := Ground.phase }, { on := 1, ground := Ground.phase }, { on := 2, ground := Ground.phase }, { on := 3, ground := Ground.phase }], guard := none }) rfl (fun K hK => ?_) AllReadyIn.nil)
              go_simp
              refine hK _ _ ?_
              clear hK K
              try simp only [Act.put, List.setIfInBounds_toArray, List.set_cons_zero, List.set_cons_succ]
              refine wpAnyIn_done (by kernel_rfl) ?_ _
              gi_wp2_with fail
              exact tab_stop K4.out (B3.out.trans (B4.out.mono B3.out.size)) HNO.out HNG.out (by omega) (by have := HML.out; omega)
    case done2 =>
      rintro D ys W hD rfl ⟨hT', hno⟩ hK
      have HV := Lib.hid hT'
      have HNO := Lib.hid hno
      clear hT' hno
      gi_wp2
      have hG := HV.out.grown (grownBy_putObj' W D (.deferred none)) (fun r e => by cases e; exact ⟨by omega, _, hK, rfl⟩)
      refine ⟨by simp, .inl ⟨_, _, rfl, run_takeDeferred hK, ?_⟩⟩
      refine ⟨_, results_tmp rfl _ _ _, ?_⟩
      have hA := hG.a
      refine ⟨?_, ?_, hA.tn⟩
      · rfl
      · have he : tabTo M (betw M.length p 0) = 0 := tabTo_none (by first | exact HNO.out | (rw [← HML.out.1]; exact HNO.out))
        show BrAt _ s b g r c (Bs.tab ⟨M, cur, p, look, false⟩)
        unfold Bs.tab Bs.tabM
        simp only [Bool.false_eq_true, if_false, he]
        exact hA.br
    case stop2 =>
      rintro D c' pre W hD hpre ⟨rfl, pre', x, rfl, hno, hgd, hT'⟩ hK
      have HV := Lib.hid hT'
      have HNO := Lib.hid hno
      have HGD := Lib.hid hgd
      have HPRE := Lib.hid hpre
      clear hT' hno hgd hpre
      gi_wp2
      have hG := HV.out.grown (grownBy_putObj' W D (.deferred none)) (fun r e => by cases e; exact ⟨by omega, _, hK, rfl⟩)
      refine ⟨by simp, .inl ⟨_, _, rfl, run_takeDeferred hK, ?_⟩⟩
      refine ⟨_, results_tmp rfl _ _ _, ?_⟩
      have hA := hG.a
      refine ⟨?_, ?_, hA.tn⟩
      · rfl
      · have he : tabTo M (betw M.length p 0) = mv M.length x 1 := tabTo_hit (by first | exact HPRE.out | (rw [← HML.out.1]; exact HPRE.out)) HNO.out HGD.out
        show BrAt _ s b g r c (Bs.tab ⟨M, cur, p, look, false⟩)
        unfold Bs.tab Bs.tabM
        simp only [Bool.false_eq_true, if_false, he]
        exact hA.br

  | true =>
    obtain ⟨q0, q1, q2, q3, q4, q5, q6, q7, qf⟩ := HT.out.a.br.cells
    have qp := HT.out.a.pc
    clear q2 q3 q4 q5 q6
    have hNN := HT.out.hN
    have hNW := HT.out.a.tn.size
    gi_wp2_with fail
    clear q0 q1 q7 qf qp
    refine range_act (α := Int) (f := fun t x => (t.setIfInBounds 24 (.int .i64 x)).setIfInBounds 6 (.int .i64 x)) rfl (by omega) (gf := 136) rfl trivial (enters_of Try.func136 (by kernel_rfl) rfl)
      (SeqO.of_stops (betw_stops2 2 (by omega) _ _ _ _ p M.length 0 r c hn _ (HT.out.itw)) (fun h => h.1)) Keep4.trans ?hKb1 (Below.refl _ _) (fun _ => rfl)
      (fun pre W => TbQ w s b g r c ⟨fillL M pre c0, cur, p, look, true⟩ N (q + 1) Bk (q + 2) q p 0 [] W ∧ ∀ rest, tabWipe M (pre ++ rest) = tabWipe (fillL M pre c0) rest)
      (fun c' pre W => c' = .exit 0 ∧ ∃ M', TbQ w s b g r c ⟨M', cur, p, look, true⟩ N (q + 1) Bk (q + 2) q p 0 [] W ∧ M'.length = M.length ∧ BoL M' ∧ ∀ rest, tabWipe M (pre ++ rest) = M')
      (fun s' X Y row h hg hr => ⟨h.1.grown hg (fun r e => ⟨by have := (hr r e).1; omega, (hr r e).2⟩), h.2⟩)
      (fun c' s' X Y row h hg hr => by obtain ⟨h1, M', h5, h6⟩ := h; exact ⟨h1, M', h5.grown hg (fun r e => ⟨by have := (hr r e).1; omega, (hr r e).2⟩), h6⟩)
      ⟨HT.out, fun rest => rfl⟩ ?assign1 ?body1 ?done1 ?stop1
    case hKb1 => exact fun W o o' ho hc => HT.out.keepPut ho
    case assign1 =>
      intro l pre x W K hI' hK
      have HK := Lib.hid hK
      clear hK
      gi_wp2
      exact HK.out _ _ (KeepsFrom.refl _ _) (Keep4.refl _ _ _ _ _) hI' rfl
    case body1 =>
      rintro l pre y a' W ⟨hT', hno⟩ rfl hlt hWs
      simp only [List.setIfInBounds_toArray, List.set_cons_zero, List.set_cons_succ]
      rw [Nat.add_zero] at hWs
      have HV := Lib.hid hT'
      obtain ⟨x0, x1, x2, x3, x4, x5, x6, x7, xf⟩ := hT'.a.br.cells
      have xp := hT'.a.pc
      obtain ⟨⟨yb, yg, ys, yl, yc⟩, hy⟩ : ∃ z, z = atL (fillL M pre c0) y := ⟨_, rfl⟩
      have HY := Lib.hid hy
      have HNO := Lib.hid hno
      have hcs := cell_start yb yg ys yl yc
      clear hT' hlt hy hno x1 x2 x3 x4 x5 x6 x7
      cases ys with
      | false =>
        gi_wp2_with (refine ⟨trivial, ?_⟩; first
          | (gi_at_call 40; refine (CallsIn.inRound l (callsIn_wide.2 (at_is HV.out.a.br.pl HY.out))).mono ?_; rintro e w3 ⟨rfl, hb3⟩; simp only [Cl.val]; have K3 := Lib.hid (HV.out.below hb3); have B3 := Lib.hid hb3; obtain ⟨v0, _⟩ := K3.out.a.br.cells; have vp := K3.out.a.pc; clear hb3)
          | (gi_at_call 49; refine (CallsIn.inRound l (callsIn_wide.2 (set_any K3.out.a.br.pl y c0))).mono ?_; rintro e w4 ⟨rfl, hp, ht⟩; have P4 := Lib.hid hp; have T4 := Lib.hid ht; clear hp ht)
          | skip)
        have hT4 : Turn (BrS s b g) W w4 := (Turn.of_below B3.out).trans (T4.out.mono fun k hk => .inr (.inr hk))
        have h4 := K3.out.step (K3.out.a.br.turn P4.out T4.out K3.out.a.br.ne.2 (setL_length _ _ _)) (T4.out.mono fun k hk => .inr (.inr hk)) (setL_length _ _ _)
        refine ⟨HV.out.keeps hT4 (by omega), HV.out.keepTurn hT4 (fun k hk => by have h1 := HV.out.a.ls; have h2 := HV.out.a.lb; have h3 := HV.out.a.lg; unfold BrS at hk; omega), ?_, fun rest => ?_⟩
        · rw [fillL_snoc]; exact h4
        · rw [List.append_assoc, HNO.out, fillL_snoc]
          show (if (atL (fillL M pre c0) y).st then _ else _) = _
          rw [← HY.out]; rfl
      | true =>
        gi_wp2_with (refine ⟨trivial, ?_⟩; first
          | (gi_at_call 40; refine (CallsIn.inRound l (callsIn_wide.2 (at_is HV.out.a.br.pl HY.out))).mono ?_; rintro e w3 ⟨rfl, hb3⟩; simp only [Cl.val]; have K3 := Lib.hid (HV.out.below hb3); have B3 := Lib.hid hb3; clear hb3)
          | skip)
        refine ⟨keepsB B3.out, rfl, fillL M pre c0, K3.out, fillL_length _ _ _, fillL_bo hbo _, fun rest => ?_⟩
        rw [List.append_assoc, HNO.out]
        show (if (atL (fillL M pre c0) y).st then _ else _) = _
        rw [← HY.out]; rfl
    case done1 =>
      rintro D1 ys W hD1 rfl ⟨hT', hno⟩ hK1
      obtain ⟨MM, hMM⟩ : ∃ MM, MM = fillL M (betw M.length p 0) c0 := ⟨_, rfl⟩
      have hml : MM.length = M.length := by rw [hMM, fillL_length]
      have hbm : BoL MM := by rw [hMM]; exact fillL_bo hbo _
      have htw : tabWipe M (betw M.length p 0) = MM := by have := hno []; rw [List.append_nil] at this; rw [this, hMM]; rfl
      rw [← hMM] at hT'
      have HV := Lib.hid hT'
      have HK1 := Lib.hid hK1
      clear hT' hno hK1 hMM
      obtain ⟨v0, v1, v2, v3, v4, v5, v6, v7, vf⟩ := HV.out.a.br.cells
      have vp := HV.out.a.pc
      have HTW := Lib.hid htw
      have HD1 := Lib.hid hD1
      clear htw v2 v3 v4 v5 v6
      gi_wp2_with fail
      have HW9 := Lib.hid (show TbQ w s b g r c ⟨MM, cur, 0, look, true⟩ N (q + 1) Bk (q + 2) q p 0 [] (W.setCell ⟨s, 1, none⟩ (.int .i64 0)) from
        HV.out.step (HV.out.a.br.move 0 (Int.le_refl 0) (by show (0 : Int) < (MM.length : Int); omega)) ((turn_set W s 1 (.int .i64 0)).mono fun k hk => .inl hk) rfl)
      have hk1' : (W.setCell ⟨s, 1, none⟩ (.int .i64 0)).heap[D1]? = some (.deferred (some [])) := ((turn_set W s 1 (.int .i64 0)).block D1 (lt_of_block HK1.out) (by have h1 := HV.out.a.ls; have h2 := HD1.out; have h3 := HT.out.a.tn.size; unfold At; omega)).trans HK1.out
      have HT2 := Lib.hid (HW9.out.more (D := D1) (by have h2 := HD1.out; have h3 := HT.out.hN; have h4 := HT.out.hi; have h5 := HT.out.it.1; omega) hk1')
      obtain ⟨N2, hN2⟩ : ∃ N2, N2 = (W.setCell ⟨s, 1, none⟩ (.int .i64 0)).heap.size := ⟨_, rfl⟩
      rw [← hN2] at HT2
      have hNN := HT2.out.hN
      have hNW := HT2.out.a.tn.size
      have HBM := Lib.hid hbm
      have HNM : Hid (Hid (cells r c = MM.length)) := Lib.hid (show Hid (cells r c = MM.length) from by rw [hml]; exact hn)
      have HML : Hid (MM.length = M.length ∧ MM.length ≤ 4096 ∧ 1 ≤ MM.length) := ⟨hml, by omega, by omega⟩
      have hNX := HV.out.a.tn.size
      clear HV HK1 HW9 hk1' v0 v1 v7 vf vp hbm hml hN2
      refine range_act (α := Int) (f := fun t x => (t.setIfInBounds 43 (.int .i64 x)).setIfInBounds 7 (.int .i64 x)) rfl (by omega) (gf := 136) rfl trivial (enters_of Try.func136 (by kernel_rfl) rfl)
        (SeqO.of_stops (betw_stops2 2 (by omega) _ _ _ _ p MM.length 0 r c HNM.out _ (HT2.out.itw)) (fun h => h.1)) Keep4.trans ?hKb2 (Below.refl _ _) (fun _ => rfl)
        (fun pre W => TbQ w s b g r c ⟨MM, cur, 0, look, true⟩ N2 (q + 1) Bk (q + 2) q p 0 [D1] W ∧ ∀ y ∈ pre, tabGood MM y = false)
        (fun c' pre W => c' = .exit 2 ∧ ∃ pre' x, pre = pre' ++ [x] ∧ (∀ y ∈ pre', tabGood MM y = false) ∧ tabGood MM x = true ∧ TbQ w s b g r c ⟨MM, cur, mv MM.length x 1, look, true⟩ N2 (q + 1) Bk (q + 2) q p 0 [D1] W)
        (fun s' X Y row h hg hr => ⟨h.1.grown hg (fun r e => ⟨by have := (hr r e).1; omega, (hr r e).2⟩), h.2⟩)
        (fun c' s' X Y row h hg hr => by obtain ⟨h1, pre', x, h2, h3, h4, h5⟩ := h; exact ⟨h1, pre', x, h2, h3, h4, h5.grown hg (fun r e => ⟨by have := (hr r e).1; omega, (hr r e).2⟩)⟩)
        ⟨HT2.out, by simp⟩ ?assign2 ?body2 ?done2 ?stop2
      case hKb2 => exact fun W o o' ho hc => HT2.out.keepPut ho
      case assign2 =>
        intro l pre x W K hI' hK
        have HK := Lib.hid hK
        clear hK
        gi_wp2
        exact HK.out _ _ (KeepsFrom.refl _ _) (Keep4.refl _ _ _ _ _) hI' rfl
      case body2 =>
        rintro l pre y a' W ⟨hT', hno⟩ rfl hlt hWs
        simp only [List.setIfInBounds_toArray, List.set_cons_zero, List.set_cons_succ]
        rw [Nat.add_zero] at hWs
        have HV := Lib.hid hT'
        have hlt4 : pre.length < 4096 := by have := betw_length MM.length p 0 (by have := HML.out; omega); omega
        obtain ⟨x0, x1, x2, x3, x4, x5, x6, x7, xf⟩ := hT'.a.br.cells
        have xp := hT'.a.pc
        obtain ⟨⟨yb, yg, ys, yl, yc⟩, hy⟩ : ∃ z, z = atL MM y := ⟨_, rfl⟩
        have hbz := hbo y
        have hMM : BoL MM := HBM.out
        have hby := hMM y
        rw [← hy] at hby
        simp only at hby
        have HY := Lib.hid hy
        clear hT' hlt hbz hMM hy x2 x3 x4 x5 x6 x7
        cases ys with
        | false =>
          have hng : tabGood MM y = false := by unfold tabGood; rw [← HY.out]; rfl
          have HNG := Lib.hid hng
          have HNO := Lib.hid hno
          clear hng hno
          gi_wp2_with (refine ⟨trivial, ?_⟩; first | (gi_at_call 40; refine (CallsIn.inRound l (callsIn_wide.2 (at_is HV.out.a.br.pl HY.out))).mono ?_; rintro e w3 ⟨rfl, hb3⟩; simp only [Cl.val]; have K3 := Lib.hid (HV.out.below (hb3.trans (below_alloc w3 (.cells #[.int .u8 yb, .bool yg, .bool false, .int .u8 yl, .int .u8 yc] 45) |>.mono hb3.size))); have B3 := Lib.hid (hb3.trans ((below_alloc w3 (.cells #[.int .u8 yb, .bool yg, .bool false, .int .u8 yl, .int .u8 yc] 45)).mono hb3.size)); clear hb3) | skip)
          exact ⟨keepsB B3.out, HV.out.keepTurn (S := fun _ => False) (Turn.of_below B3.out) (fun _ h => h.elim), K3.out, fun z hz => by rcases List.mem_append.1 hz with h | h; exact HNO.out z h; rw [List.mem_singleton.1 h]; exact HNG.out⟩
        | true =>
          have HNO := Lib.hid hno
          clear hno
          cases hpr : Attr.prot yb with
          | true =>
            have HPR := Lib.hid hpr
            have hng : tabGood MM y = false := by unfold tabGood; rw [← HY.out]; simp [hpr]
            have HNG := Lib.hid hng
            clear hng hpr
            gi_wp2_with (refine ⟨trivial, ?_⟩; first
              | (gi_at_call 40; refine (CallsIn.inRound l (callsIn_wide.2 (at_is HV.out.a.br.pl HY.out))).mono ?_; rintro e w3 ⟨rfl, hb3⟩; simp only [Cl.val]; have K3 := Lib.hid (HV.out.below (hb3.trans (below_alloc w3 (.cells #[.int .u8 yb, .bool yg, .bool true, .int .u8 yl, .int .u8 yc] 45) |>.mono hb3.size))); have B3 := Lib.hid (hb3.trans ((below_alloc w3 (.cells #[.int .u8 yb, .bool yg, .bool true, .int .u8 yl, .int .u8 yc] 45)).mono hb3.size)); clear hb3)
              | (gi_at_call 55; refine (CallsIn.inRound l (callsIn_wide.2 (Attr.protected_any yb _ hby.1 hby.2))).mono ?_; rintro e w4 ⟨he, rfl⟩; rw [HPR.out] at he; subst he)
              | skip)
            exact ⟨keepsB B3.out, HV.out.keepTurn (S := fun _ => False) (Turn.of_below B3.out) (fun _ h => h.elim), K3.out, fun z hz => by rcases List.mem_append.1 hz with h | h; exact HNO.out z h; rw [List.mem_singleton.1 h]; exact HNG.out⟩
          | false =>
            have HPR := Lib.hid hpr
            have hng : tabGood MM y = true := by unfold tabGood; rw [← HY.out]; simp [hpr]
            have HNG := Lib.hid hng
            clear hng hpr
            gi_upto_region 12 with (refine ⟨trivial, ?_⟩; first
              | (gi_at_call 40; refine (CallsIn.inRound l (callsIn_wide.2 (at_is HV.out.a.br.pl HY.out))).mono ?_; rintro e w3 ⟨rfl, hb3⟩; simp only [Cl.val]; have K3 := Lib.hid (HV.out.below (hb3.trans (below_alloc w3 (.cells #[.int .u8 yb, .bool yg, .bool true, .int .u8 yl, .int .u8 yc] 45) |>.mono hb3.size))); have B3 := Lib.hid (hb3.trans ((below_alloc w3 (.cells #[.int .u8 yb, .bool yg, .bool true, .int .u8 yl, .int .u8 yc] 45)).mono hb3.size)); clear hb3)
              | (gi_at_call 55; refine (CallsIn.inRound l (callsIn_wide.2 (Attr.protected_any yb _ hby.1 hby.2))).mono ?_; rintro e w4 ⟨he, rfl⟩; rw [HPR.out] at he; subst he)
              | skip)
            obtain ⟨v0, v1, _⟩ := K3.out.a.br.cells
            have vp := K3.out.a.pc
            obtain ⟨W3, hW3⟩ : ∃ W3, W3 = w3.alloc (.cells #[.int .u8 yb, .bool yg, .bool true, .int .u8 yl, .int .u8 yc] 45) := ⟨_, rfl⟩
            rw [← hW3] at K3 B3 v0 v1 vp ⊢
            clear hW3 x0 x1 xf xp
            refine region_round (by kernel_rfl) (by kernel_rfl) ?_
            refine wpAnyIn_take (i := 2) (oi := { dst := some 60, op := Op.move (Operand.tmp 7), type := 3, pos := "paint.go:157", after := #[], guard := none }) (v := ?_) rfl rfl (by kernel_rfl) (by kernel_rfl) (by kernel_rfl) (fun _ _ _ h => h) ⟨Or.inl ⟨by rfl, ?_⟩, fun _ => rfl⟩ ?_
            rotate_left
            focus (intro w; go_simp; try (with_reducible rfl))
            try simp only [Act.put, List.setIfInBounds_toArray, List.set_cons_zero, List.set_cons_succ]
            refine wpAnyIn_ready (rs := [0, 1]) (by kernel_rfl) (by simp) (AllReadyIn.cons (o := { dst := some 58, op := Op.load 148 (Operand.tmp 2), type := 148, pos := "paint.go:157", after := #[], guard := none }) rfl (fun K hK => ?_) (AllReadyIn.cons (o := { dst := some 59, op := Op.load 148 (Operand.tmp 2), type := 148, pos := "paint.go:157", after := #[], guard := none }) rfl (fun K hK => ?_) AllReadyIn.nil))
            · go_simp
              refine hK _ _ ?_
              clear hK K
              try simp only [Act.put, List.setIfInBounds_toArray, List.set_cons_zero, List.set_cons_succ]
              refine wpAnyIn_ready (rs := [1]) (by kernel_rfl) (by simp) (AllReadyIn.cons (o := { dst := some 59, op := Op.load 148 (Operand.tmp 2), type := 148, pos := "paint.go:157", after := #[], guard := none }) rfl (fun K hK => ?_) AllReadyIn.nil)
              go_simp
              refine hK _ _ ?_
              clear hK K
              try simp only [Act.put, List.setIfInBounds_toArray, List.set_cons_zero, List.set_cons_succ]
              refine wpAnyIn_ready (rs := [3]) (by kernel_rfl) (by simp) (AllReadyIn.cons (o := { dst := some 61, op := Op.call { callee := Callee.value (Operand.func 145), args := #[Operand.tmp 59, Operand.tmp 60], argTypes := #[148, 3] }, type := 3, pos := "paint.go:157", after := #[{ on := 1, ground := Ground.data }, { on := 2, ground := Ground.data }], guard := none }) rfl (fun K hK => ?_) AllReadyIn.nil)
              go_simp
              (try refine ⟨trivial, ?_⟩)
              gi_at_call 145
              refine (callsIn_wide.2 (behind_any K3.out.a.br.drew y)).mono ?_
              rintro e w4 ⟨rfl, hb4⟩
              have hb4 := below_undrew hb4
              have K4 := Lib.hid (K3.out.below hb4)
              have B4 := Lib.hid hb4
              obtain ⟨v0, v1, v2, v3, v4, v5, v6, v7, vf⟩ := K4.out.a.br.cells
              have vp := K4.out.a.pc
              clear hb4 v2 v3 v4 v5 v6 v7
              refine hK _ _ ?_
              clear hK K
              try simp only [Act.put, List.setIfInBounds_toArray, List.set_cons_zero, List.set_cons_succ]
              refine wpAnyIn_ready (rs := [4]) (by kernel_rfl) (by simp) (AllReadyIn.cons (o := { dst := some 62, op := Op.nilCheck (Operand.tmp 58), type := 0, pos := "paint.go:157", after := #[{ on := 0, ground := Ground.data }, { on := 0, ground := Ground.phase }, { on := 1, ground := Ground.phase }, { on := 2, ground := Ground.phase }, { on := 3, ground := Ground.phase }], guard := none }) rfl (fun K hK => ?_) AllReadyIn.nil)
              go_simp
              refine hK _ _ ?_
              clear hK K
              try simp only [Act.put, List.setIfInBounds_toArray, List.set_cons_zero, List.set_cons_succ]
              refine wpAnyIn_ready (rs := [5]) (by kernel_rfl) (by simp) (AllReadyIn.cons (o := { dst := some 63, op := Op.fieldAddr 117 (Operand.tmp 62) 1, type := 0, pos := "paint.go:157", after := #[{ on := 4, ground := Ground.data }, { on := 0, ground := Ground.phase }, { on := 1, ground := Ground.phase }, { on := 2, ground := Ground.phase }, { on := 3, ground := Ground.phase }], guard := none }) rfl (fun K hK => ?_) AllReadyIn.nil)
              go_simp
              refine hK _ _ ?_
              clear hK K
              try simp only [Act.put, List.setIfInBounds_toArray, List.set_cons_zero, List.set_cons_succ]
              refine wpAnyIn_ready (rs := [6]) (by kernel_rfl) (by simp) (AllReadyIn.cons (o := { dst := none, op := Op.store 3 (Operand.tmp 63) (Operand.tmp 61), type := 0, pos := "paint.go:157", after := #[{ on := 5, ground := Ground.data }, { on := 3, ground := Ground.data }, { on := 3, ground := Ground.chain }, { on := 0, ground := Ground.phase }, { on := 1, ground := Ground.phase }, { on := 2, ground := Ground.phase }, { on := 3, ground := Ground.phase }], guard := none }) rfl (fun K hK => ?_) AllReadyIn.nil)
              go_simp
              refine hK _ _ ?_
              clear hK K
              try simp only [Act.put, List.setIfInBounds_toArray, List.set_cons_zero, List.set_cons_succ]
              refine wpAnyIn_done (by kernel_rfl) ?_ _
              gi_wp2_with fail
              exact tab_stop K4.out (B3.out.trans (B4.out.mono B3.out.size)) HNO.out HNG.out (by omega) (by have := HML.out; omega)
            · go_simp
              refine hK _ _ ?_
              clear hK K
              try simp only [Act.put, List.setIfInBounds_toArray, List.set_cons_zero, List.set_cons_succ]
              refine wpAnyIn_ready (rs := [0, 3]) (by kernel_rfl) (by simp) (AllReadyIn.cons (o := { dst := some 58, op := Op.load 148 (Operand.tmp 2), type := 148, pos := "paint.go:157", after := #[], guard := none }) rfl (fun K hK => ?_) (AllReadyIn.cons (o := { dst := some 61, op := Op.call { callee := Callee.value (Operand.func 145), args := #[Operand.tmp 59, Operand.tmp 60], argTypes := #[148, 3] }, type := 3, pos := "paint.go:157", after := #[{ on := 1, ground := Ground.data }, { on := 2, ground := Ground.data }], guard := none }) rfl (fun K hK => ?_) AllReadyIn.nil))
              · go_simp
                refine hK _ _ ?_
                clear hK K
                try simp only [Act.put, List.setIfInBounds_toArray, List.set_cons_zero, List.set_cons_succ]
                refine wpAnyIn_ready (rs := [3]) (by kernel_rfl) (by simp) (AllReadyIn.cons (o := { dst := some 61, op := Op.call { callee := Callee.value (Operand.func 145), args := #[Operand.tmp 59, Operand.tmp 60], argTypes := #[148, 3] }, type := 3, pos := "paint.go:157", after := #[{ on := 1, ground := Ground.data }, { on := 2, ground := Ground.data }], guard := none }) rfl (fun K hK => ?_) AllReadyIn.nil)
                go_simp
                (try refine ⟨trivial, ?_⟩)
                gi_at_call 145
                refine (callsIn_wide.2 (behind_any K3.out.a.br.drew y)).mono ?_
                rintro e w4 ⟨rfl, hb4⟩
                have hb4 := below_undrew hb4
                have K4 := Lib.hid (K3.out.below hb4)
                have B4 := Lib.hid hb4
                obtain ⟨v0, v1, v2, v3, v4, v5, v6, v7, vf⟩ := K4.out.a.br.cells
                have vp := K4.out.a.pc
                clear hb4 v2 v3 v4 v5 v6 v7
                refine hK _ _ ?_
                clear hK K
                try simp only [Act.put, List.setIfInBounds_toArray, List.set_cons_zero, List.set_cons_succ]
                refine wpAnyIn_ready (rs := [4]) (by kernel_rfl) (by simp) (AllReadyIn.cons (o := { dst := some 62, op := Op.nilCheck (Operand.tmp 58), type := 0, pos := "paint.go:157", after := #[{ on := 0, ground := Ground.data }, { on := 0, ground := Ground.phase }, { on := 1, ground := Ground.phase }, { on := 2, ground := Ground.phase }, { on := 3, ground := Ground.phase }], guard := none }) rfl (fun K hK => ?_) AllReadyIn.nil)
                go_simp
                refine hK _ _ ?_
                clear hK K
                try simp only [Act.put, List.setIfInBounds_toArray, List.set_cons_zero, List.set_cons_succ]
                refine wpAnyIn_ready (rs := [5]) (by kernel_rfl) (by simp) (AllReadyIn.cons (o := { dst := some 63, op := Op.fieldAddr 117 (Operand.tmp 62) 1, type := 0, pos := "paint.go:157", after := #[{ on := 4, ground := Ground.data }, { on := 0, ground := Ground.phase }, { on := 1, ground := Ground.phase }, { on := 2, ground := Ground.phase }, { on := 3, ground := Ground.phase }], guard := none }) rfl (fun K hK => ?_) AllReadyIn.nil)
                go_simp
                refine hK _ _ ?_
                clear hK K
                try simp only [Act.put, List.setIfInBounds_toArray, List.set_cons_zero, List.set_cons_succ]
                refine wpAnyIn_ready (rs := [6]) (by kernel_rfl) (by simp) (AllReadyIn.cons (o := { dst := none, op := Op.store 3 (Operand.tmp 63) (Operand.tmp 61), type := 0, pos := "paint.go:157", after := #[{ on := 5, ground := Ground.data }, { on := 3, ground := Ground.data }, { on := 3, ground := Ground.chain }, { on := 0, ground := Ground.phase }, { on := 1, ground := Ground.phase }, { on := 2, ground := Ground.phase }, { on := 3, ground := Ground.phase }], guard := none }) rfl (fun K hK => ?_) AllReadyIn.nil)
                go_simp
                refine hK _ _ ?_
                clear hK K
                try simp only [Act.put, List.setIfInBounds_toArray, List.set_cons_zero, List.set_cons_succ]
                refine wpAnyIn_done (by kernel_rfl) ?_ _
                gi_wp2_with fail
                exact tab_stop K4.out (B3.out.trans (B4.out.mono B3.out.size)) HNO.out HNG.out (by omega) (by have := HML.out; omega)
              · go_simp
                (try refine ⟨trivial, ?_⟩)
                gi_at_call 145
                refine (callsIn_wide.2 (behind_any K3.out.a.br.drew y)).mono ?_
                rintro e w4 ⟨rfl, hb4⟩
                have hb4 := below_undrew hb4
                have K4 := Lib.hid (K3.out.below hb4)
                have B4 := Lib.hid hb4
                obtain ⟨v0, v1, v2, v3, v4, v5, v6, v7, vf⟩ := K4.out.a.br.cells
                have vp := K4.out.a.pc
                clear hb4 v2 v3 v4 v5 v6 v7
                refine hK _ _ ?_
                clear hK K
                try simp only [Act.put, List.setIfInBounds_toArray, List.set_cons_zero, List.set_cons_succ]
                refine wpAnyIn_ready (rs := [0]) (by kernel_rfl) (by simp) (AllReadyIn.cons (o := { dst := some 58, op := Op.load 148 (Operand.tmp 2), type := 148, pos := "paint.go:157", after := #[], guard := none }) rfl (fun K hK => ?_) AllReadyIn.nil)
                go_simp
                refine hK _ _ ?_
                clear hK K
                try simp only [Act.put, List.setIfInBounds_toArray, List.set_cons_zero, List.set_cons_succ]
                refine wpAnyIn_ready (rs := [4]) (by kernel_rfl) (by simp) (AllReadyIn.cons (o := { dst := some 62, op := Op.nilCheck (Operand.tmp 58), type := 0, pos := "paint.go:157", after := #[{ on := 0, ground := Ground.data }, { on := 0, ground := Ground.phase }, { on := 1, ground := Ground.phase }, { on := 2, ground := Ground.phase }, { on := 3, ground := Ground.phase }], guard := none }) rfl (fun K hK => ?_) AllReadyIn.nil)
                go_simp
                refine hK _ _ ?_
                clear hK K
                try simp only [Act.put, List.setIfInBounds_toArray, List.set_cons_zero, List.set_cons_succ]
                refine wpAnyIn_ready (rs := [5]) (by kernel_rfl) (by simp) (AllReadyIn.cons (o := { dst := some 63, op := Op.fieldAddr 117 (Operand.tmp 62) 1, type := 0, pos := "paint.go:157", after := #[{ on := 4, ground := Ground.data }, { on := 0, ground := Ground.phase }, { on := 1, ground := Ground.phase }, { on := 2, ground := Ground.phase }, { on := 3, ground := Ground.phase }], guard := none }) rfl (fun K hK => ?_) AllReadyIn.nil)
                go_simp
                refine hK _ _ ?_
                clear hK K
                try simp only [Act.put, List.setIfInBounds_toArray, List.set_cons_zero, List.set_cons_succ]
                refine wpAnyIn_ready (rs := [6]) (by kernel_rfl) (by simp) (AllReadyIn.cons (o := { dst := none, op := Op.store 3 (Operand.tmp 63) (Operand.tmp 61), type := 0, pos := "paint.go:157", after := #[{ on := 5, ground := Ground.data }, { on := 3, ground := Ground.data }, { on := 3, ground := Ground.chain }, { on := 0, ground := Ground.phase }, { on := 1, ground := Ground.phase }, { on := 2, ground := Ground.phase }, { on := 3, ground := Ground.phase }], guard := none }) rfl (fun K hK => ?_) AllReadyIn.nil)
                go_simp
                refine hK _ _ ?_
                clear hK K
                try simp only [Act.put, List.setIfInBounds_toArray, List.set_cons_zero, List.set_cons_succ]
                refine wpAnyIn_done (by kernel_rfl) ?_ _
                gi_wp2_with fail
                exact tab_stop K4.out (B3.out.trans (B4.out.mono B3.out.size)) HNO.out HNG.out (by omega) (by have := HML.out; omega)
      case done2 =>
        rintro D ys W hD rfl ⟨hT', hno⟩ hK
        have HV := Lib.hid hT'
        have HNO := Lib.hid hno
        clear hT' hno
        gi_wp2
        have hG := HV.out.grown (grownBy_putObj' W D (.deferred none)) (fun r e => by cases e; exact ⟨by omega, _, hK, rfl⟩)
        refine ⟨by simp, .inl ⟨_, _, rfl, run_takeDeferred hK, ?_⟩⟩
        have hK2 := hG.ex D1 (by simp)
        refine ⟨by simp, .inl ⟨_, _, rfl, run_takeDeferred hK2.2.2, ?_⟩⟩
        refine ⟨_, results_tmp rfl _ _ _, ?_⟩
        have hA := hG.a.grown (grownBy_putObj' _ D1 (.deferred none)) (fun r e => by cases e; exact ⟨by omega, _, hK2.2.2, rfl⟩)
        refine ⟨?_, ?_, hA.tn⟩
        · rfl
        · have he : tabTo MM (betw M.length p 0) = 0 := tabTo_none (by first | exact HNO.out | (rw [← HML.out.1]; exact HNO.out))
          show BrAt _ s b g r c (Bs.tab ⟨M, cur, p, look, true⟩)
          unfold Bs.tab Bs.tabM
          simp only [if_true, HTW.out, he]
          exact hA.br
      case stop2 =>
        rintro D c' pre W hD hpre ⟨rfl, pre', x, rfl, hno, hgd, hT'⟩ hK
        have HV := Lib.hid hT'
        have HNO := Lib.hid hno
        have HGD := Lib.hid hgd
        have HPRE := Lib.hid hpre
        clear hT' hno hgd hpre
        gi_wp2
        have hG := HV.out.grown (grownBy_putObj' W D (.deferred none)) (fun r e => by cases e; exact ⟨by omega, _, hK, rfl⟩)
        refine ⟨by simp, .inl ⟨_, _, rfl, run_takeDeferred hK, ?_⟩⟩
        have hK2 := hG.ex D1 (by simp)
        refine ⟨by simp, .inl ⟨_, _, rfl, run_takeDeferred hK2.2.2, ?_⟩⟩
        refine ⟨_, results_tmp rfl _ _ _, ?_⟩
        have hA := hG.a.grown (grownBy_putObj' _ D1 (.deferred none)) (fun r e => by cases e; exact ⟨by omega, _, hK2.2.2, rfl⟩)
        refine ⟨?_, ?_, hA.tn⟩
        · rfl
        · have he : tabTo MM (betw M.length p 0) = mv MM.length x 1 := tabTo_hit (by first | exact HPRE.out | (rw [← HML.out.1]; exact HPRE.out)) HNO.out HGD.out
          show BrAt _ s b g r c (Bs.tab ⟨M, cur, p, look, true⟩)
          unfold Bs.tab Bs.tabM
          simp only [if_true, HTW.out, he]
          exact hA.br
    
    case stop1 =>
      rintro D1 c' pre W hD1 hpre ⟨rfl, MM, hT', hml, hbm, hno⟩ hK1
      have htw : tabWipe M (betw M.length p 0) = MM := by obtain ⟨t, ht⟩ := hpre; rw [← ht]; exact hno t
      have HV := Lib.hid hT'
      have HK1 := Lib.hid hK1
      clear hT' hno hK1 hpre
      obtain ⟨v0, v1, v2, v3, v4, v5, v6, v7, vf⟩ := HV.out.a.br.cells
      have vp := HV.out.a.pc
      have HTW := Lib.hid htw
      have HD1 := Lib.hid hD1
      clear htw v2 v3 v4 v5 v6
      gi_wp2_with fail
      have HW9 := Lib.hid (show TbQ w s b g r c ⟨MM, cur, 0, look, true⟩ N (q + 1) Bk (q + 2) q p 0 [] (W.setCell ⟨s, 1, none⟩ (.int .i64 0)) from
        HV.out.step (HV.out.a.br.move 0 (Int.le_refl 0) (by show (0 : Int) < (MM.length : Int); omega)) ((turn_set W s 1 (.int .i64 0)).mono fun k hk => .inl hk) rfl)
      have hk1' : (W.setCell ⟨s, 1, none⟩ (.int .i64 0)).heap[D1]? = some (.deferred (some [])) := ((turn_set W s 1 (.int .i64 0)).block D1 (lt_of_block HK1.out) (by have h1 := HV.out.a.ls; have h2 := HD1.out; have h3 := HT.out.a.tn.size; unfold At; omega)).trans HK1.out
      have HT2 := Lib.hid (HW9.out.more (D := D1) (by have h2 := HD1.out; have h3 := HT.out.hN; have h4 := HT.out.hi; have h5 := HT.out.it.1; omega) hk1')
      obtain ⟨N2, hN2⟩ : ∃ N2, N2 = (W.setCell ⟨s, 1, none⟩ (.int .i64 0)).heap.size := ⟨_, rfl⟩
      rw [← hN2] at HT2
      have hNN := HT2.out.hN
      have hNW := HT2.out.a.tn.size
      have HBM := Lib.hid hbm
      have HNM : Hid (Hid (cells r c = MM.length)) := Lib.hid (show Hid (cells r c = MM.length) from by rw [hml]; exact hn)
      have HML : Hid (MM.length = M.length ∧ MM.length ≤ 4096 ∧ 1 ≤ MM.length) := ⟨hml, by omega, by omega⟩
      have hNX := HV.out.a.tn.size
      clear HV HK1 HW9 hk1' v0 v1 v7 vf vp hbm hml hN2
      refine range_act (α := Int) (f := fun t x => (t.setIfInBounds 43 (.int .i64 x)).setIfInBounds 7 (.int .i64 x)) rfl (by omega) (gf := 136) rfl trivial (enters_of Try.func136 (by kernel_rfl) rfl)
        (SeqO.of_stops (betw_stops2 2 (by omega) _ _ _ _ p MM.length 0 r c HNM.out _ (HT2.out.itw)) (fun h => h.1)) Keep4.trans ?hKb2 (Below.refl _ _) (fun _ => rfl)
        (fun pre W => TbQ w s b g r c ⟨MM, cur, 0, look, true⟩ N2 (q + 1) Bk (q + 2) q p 0 [D1] W ∧ ∀ y ∈ pre, tabGood MM y = false)
        (fun c' pre W => c' = .exit 2 ∧ ∃ pre' x, pre = pre' ++ [x] ∧ (∀ y ∈ pre', tabGood MM y = false) ∧ tabGood MM x = true ∧ TbQ w s b g r c ⟨MM, cur, mv MM.length x 1, look, true⟩ N2 (q + 1) Bk (q + 2) q p 0 [D1] W)
        (fun s' X Y row h hg hr => ⟨h.1.grown hg (fun r e => ⟨by have := (hr r e).1; omega, (hr r e).2⟩), h.2⟩)
        (fun c' s' X Y row h hg hr => by obtain ⟨h1, pre', x, h2, h3, h4, h5⟩ := h; exact ⟨h1, pre', x, h2, h3, h4, h5.grown hg (fun r e => ⟨by have := (hr r e).1; omega, (hr r e).2⟩)⟩)
        ⟨HT2.out, by simp⟩ ?assign2 ?body2 ?done2 ?stop2
      case hKb2 => exact fun W o o' ho hc => HT2.out.keepPut ho
      case assign2 =>
        intro l pre x W K hI' hK
        have HK := Lib.hid hK
        clear hK
        gi_wp2
        exact HK.out _ _ (KeepsFrom.refl _ _) (Keep4.refl _ _ _ _ _) hI' rfl
      case body2 =>
        rintro l pre y a' W ⟨hT', hno⟩ rfl hlt hWs
        simp only [List.setIfInBounds_toArray, List.set_cons_zero, List.set_cons_succ]
        rw [Nat.add_zero] at hWs
        have HV := Lib.hid hT'
        have hlt4 : pre.length < 4096 := by have := betw_length MM.length p 0 (by have := HML.out; omega); omega
        obtain ⟨x0, x1, x2, x3, x4, x5, x6, x7, xf⟩ := hT'.a.br.cells
        have xp := hT'.a.pc
        obtain ⟨⟨yb, yg, ys, yl, yc⟩, hy⟩ : ∃ z, z = atL MM y := ⟨_, rfl⟩
        have hbz := hbo y
        have hMM : BoL MM := HBM.out
        have hby := hMM y
        rw [← hy] at hby
        simp only at hby
        have HY := Lib.hid hy
        clear hT' hlt hbz hMM hy x2 x3 x4 x5 x6 x7
        cases ys with
        | false =>
          have hng : tabGood MM y = false := by unfold tabGood; rw [← HY.out]; rfl
          have HNG := Lib.hid hng
          have HNO := Lib.hid hno
          clear hng hno
          gi_wp2_with (refine ⟨trivial, ?_⟩; first | (gi_at_call 40; refine (CallsIn.inRound l (callsIn_wide.2 (at_is HV.out.a.br.pl HY.out))).mono ?_; rintro e w3 ⟨rfl, hb3⟩; simp only [Cl.val]; have K3 := Lib.hid (HV.out.below (hb3.trans (below_alloc w3 (.cells #[.int .u8 yb, .bool yg, .bool false, .int .u8 yl, .int .u8 yc] 45) |>.mono hb3.size))); have B3 := Lib.hid (hb3.trans ((below_alloc w3 (.cells #[.int .u8 yb, .bool yg, .bool false, .int .u8 yl, .int .u8 yc] 45)).mono hb3.size)); clear hb3) | skip)
          exact ⟨keepsB B3.out, HV.out.keepTurn (S := fun _ => False) (Turn.of_below B3.out) (fun _ h => h.elim), K3.out, fun z hz => by rcases List.mem_append.1 hz with h | h; exact HNO.out z h; rw [List.mem_singleton.1 h]; exact HNG.out⟩
        | true =>
          have HNO := Lib.hid hno
          clear hno
          cases hpr : Attr.prot yb with
          | true =>
            have HPR := Lib.hid hpr
            have hng : tabGood MM y = false := by unfold tabGood; rw [← HY.out]; simp [hpr]
            have HNG := Lib.hid hng
            clear hng hpr
            gi_wp2_with (refine ⟨trivial, ?_⟩; first
              | (gi_at_call 40; refine (CallsIn.inRound l (callsIn_wide.2 (at_is HV.out.a.br.pl HY.out))).mono ?_; rintro e w3 ⟨rfl, hb3⟩; simp only [Cl.val]; have K3 := Lib.hid (HV.out.below (hb3.trans (below_alloc w3 (.cells #[.int .u8 yb, .bool yg, .bool true, .int .u8 yl, .int .u8 yc] 45) |>.mono hb3.size))); have B3 := Lib.hid (hb3.trans ((below_alloc w3 (.cells #[.int .u8 yb, .bool yg, .bool true, .int .u8 yl, .int .u8 yc] 45)).mono hb3.size)); clear hb3)
              | (gi_at_call 55; refine (CallsIn.inRound l (callsIn_wide.2 (Attr.protected_any yb _ hby.1 hby.2))).mono ?_; rintro e w4 ⟨he, rfl⟩; rw [HPR.out] at he; subst he)
              | skip)
            exact ⟨keepsB B3.out, HV.out.keepTurn (S := fun _ => False) (Turn.of_below B3.out) (fun _ h => h.elim), K3.out, fun z hz => by rcases List.mem_append.1 hz with h | h; exact HNO.out z h; rw [List.mem_singleton.1 h]; exact HNG.out⟩
          | false =>
            have HPR := Lib.hid hpr
            have hng : tabGood MM y = true := by unfold tabGood; rw [← HY.out]; simp [hpr]
            have HNG := Lib.hid hng
            clear hng hpr
            gi_upto_region 12 with (refine ⟨trivial, ?_⟩; first
              | (gi_at_call 40; refine (CallsIn.inRound l (callsIn_wide.2 (at_is HV.out.a.br.pl HY.out))).mono ?_; rintro e w3 ⟨rfl, hb3⟩; simp only [Cl.val]; have K3 := Lib.hid (HV.out.below (hb3.trans (below_alloc w3 (.cells #[.int .u8 yb, .bool yg, .bool true, .int .u8 yl, .int .u8 yc] 45) |>.mono hb3.size))); have B3 := Lib.hid (hb3.trans ((below_alloc w3 (.cells #[.int .u8 yb, .bool yg, .bool true, .int .u8 yl, .int .u8 yc] 45)).mono hb3.size)); clear hb3)
              | (gi_at_call 55; refine (CallsIn.inRound l (callsIn_wide.2 (Attr.protected_any yb _ hby.1 hby.2))).mono ?_; rintro e w4 ⟨he, rfl⟩; rw [HPR.out] at he; subst he)
              | skip)
            obtain ⟨v0, v1, _⟩ := K3.out.a.br.cells
            have vp := K3.out.a.pc
            obtain ⟨W3, hW3⟩ : ∃ W3, W3 = w3.alloc (.cells #[.int .u8 yb, .bool yg, .bool true, .int .u8 yl, .int .u8 yc] 45) := ⟨_, rfl⟩
            rw [← hW3] at K3 B3 v0 v1 vp ⊢
            clear hW3 x0 x1 xf xp
            refine region_round (by kernel_rfl) (by kernel_rfl) ?_
            refine wpAnyIn_take (i := 2) (oi := { dst := some 60, op := Op.move (Operand.tmp 7), type := 3, pos := "paint.go:157", after := #[], guard := none }) (v := ?_) rfl rfl (by kernel_rfl) (by kernel_rfl) (by kernel_rfl) (fun _ _ _ h => h) ⟨Or.inl ⟨by rfl, ?_⟩, fun _ => rfl⟩ ?_
            rotate_left
            focus (intro w; go_simp; try (with_reducible rfl))
            try simp only [Act.put, List.setIfInBounds_toArray, List.set_cons_zero, List.set_cons_succ]
            refine wpAnyIn_ready (rs := [0, 1]) (by kernel_rfl) (by simp) (AllReadyIn.cons (o := { dst := some 58, op := Op.load 148 (Operand.tmp 2), type := 148, pos := "paint.go:157", after := #[], guard := none }) rfl (fun K hK => ?_) (AllReadyIn.cons (o := { dst := some 59, op := Op.load 148 (Operand.tmp 2), type := 148, pos := "paint.go:157", after := #[], guard := none }) rfl (fun K hK => ?_) AllReadyIn.nil))
            · go_simp
              refine hK _ _ ?_
              clear hK K
              try simp only [Act.put, List.setIfInBounds_toArray, List.set_cons_zero, List.set_cons_succ]
              refine wpAnyIn_ready (rs := [1]) (by kernel_rfl) (by simp) (AllReadyIn.cons (o := { dst := some 59, op := Op.load 148 (Operand.tmp 2), type := 148, pos := "paint.go:157", after := #[], guard := none }) rfl (fun K hK => ?_) AllReadyIn.nil)
              go_simp
              refine hK _ _ ?_
              clear hK K
              try simp only [Act.put, List.setIfInBounds_toArray, List.set_cons_zero, List.set_cons_succ]
              refine wpAnyIn_ready (rs := [3]) (by kernel_rfl) (by simp) (AllReadyIn.cons (o := { dst := some 61, op := Op.call { callee := Callee.value (Operand.func 145), args := #[Operand.tmp 59, Operand.tmp 60], argTypes := #[148, 3] }, type := 3, pos := "paint.go:157", after := #[{ on := 1, ground := Ground.data }, { on := 2, ground := Ground.data }], guard := none }) rfl (fun K hK => ?_) AllReadyIn.nil)
              go_simp
              (try refine ⟨trivial, ?_⟩)
              gi_at_call 145
              refine (callsIn_wide.2 (behind_any K3.out.a.br.drew y)).mono ?_
              rintro e w4 ⟨rfl, hb4⟩
              have hb4 := below_undrew hb4
              have K4 := Lib.hid (K3.out.below hb4)
              have B4 := Lib.hid hb4
              obtain ⟨v0, v1, v2, v3, v4, v5, v6, v7, vf⟩ := K4.out.a.br.cells
              have vp := K4.out.a.pc
              clear hb4 v2 v3 v4 v5 v6 v7
              refine hK _ _ ?_
              clear hK K
              try simp only [Act.put, List.setIfInBounds_toArray, List.set_cons_zero, List.set_cons_succ]
              refine wpAnyIn_ready (rs := [4]) (by kernel_rfl) (by simp) (AllReadyIn.cons (o := { dst := some 62, op := Op.nilCheck (Operand.tmp 58), type := 0, pos := "paint.go:157", after := #[{ on := 0, ground := Ground.data }, { on := 0, ground := Ground.phase }, { on := 1, ground := Ground.phase }, { on := 2, ground := Ground.phase }, { on := 3, ground := Ground.phase }], guard := none }) rfl (fun K hK => ?_) AllReadyIn.nil)
              go_simp
              refine hK _ _ ?_
              clear hK K
              try simp only [Act.put, List.setIfInBounds_toArray, List.set_cons_zero, List.set_cons_succ]
              refine wpAnyIn_ready (rs := [5]) (by kernel_rfl) (by simp) (AllReadyIn.cons (o := { dst := some 63, op := Op.fieldAddr 117 (Operand.tmp 62) 1, type := 0, pos := "paint.go:157", after := #[{ on := 4, ground := Ground.data }, { on := 0, ground := Ground.phase }, { on := 1, ground := Ground.phase }, { on := 2, ground := Ground.phase }, { on := 3, ground := Ground.phase }], guard := none }) rfl (fun K hK => ?_) AllReadyIn.nil)
              go_simp
              refine hK _ _ ?_
              clear hK K
              try simp only [Act.put, List.setIfInBounds_toArray, List.set_cons_zero, List.set_cons_succ]
              refine wpAnyIn_ready (rs := [6]) (by kernel_rfl) (by simp) (AllReadyIn.cons (o := { dst := none, op := Op.store 3 (Operand.tmp 63) (Operand.tmp 61), type := 0, pos := "paint.go:157", after := #[{ on := 5, ground := Ground.data }, { on := 3, ground := Ground.data }, { on := 3, ground := Ground.chain }, { on := 0, ground := Ground.phase }, { on := 1, ground := Ground.phase }, { on := 2, ground := Ground.phase }, { on := 3, ground := Ground.phase }], guard := none }) rfl (fun K hK => ?_) AllReadyIn.nil)
              go_simp
              refine hK _ _ ?_
              clear hK K
              try simp only [Act.put, List.setIfInBounds_toArray, List.set_cons_zero, List.set_cons_succ]
              refine wpAnyIn_done (by kernel_rfl) ?_ _
              gi_wp2_with fail
              exact tab_stop K4.out (B3.out.trans (B4.out.mono B3.out.size)) HNO.out HNG.out (by omega) (by have := HML.out; omega)
            · go_simp
              refine hK _ _ ?_
              clear hK K
              try simp only [Act.put, List.setIfInBounds_toArray, List.set_cons_zero, List.set_cons_succ]
              refine wpAnyIn_ready (rs := [0, 3]) (by kernel_rfl) (by simp) (AllReadyIn.cons (o := { dst := some 58, op := Op.load 148 (Operand.tmp 2), type := 148, pos := "paint.go:157", after := #[], guard := none }) rfl (fun K hK => ?_) (AllReadyIn.cons (o := { dst := some 61, op := Op.call { callee := Callee.value (Operand.func 145), args := #[Operand.tmp 59, Operand.tmp 60], argTypes := #[148, 3] }, type := 3, pos := "paint.go:157", after := #[{ on := 1, ground := Ground.data }, { on := 2, ground := Ground.data }], guard := none }) rfl (fun K hK => ?_) AllReadyIn.nil))
              · go_simp
                refine hK _ _ ?_
                clear hK K
                try simp only [Act.put, List.setIfInBounds_toArray, List.set_cons_zero, List.set_cons_succ]
                refine wpAnyIn_ready (rs := [3]) (by kernel_rfl) (by simp) (AllReadyIn.cons (o := { dst := some 61, op := Op.call { callee := Callee.value (Operand.func 145), args := #[Operand.tmp 59, Operand.tmp 60], argTypes := #[148, 3] }, type := 3, pos := "paint.go:157", after := #[{ on := 1, ground := Ground.data }, { on := 2, ground := Ground.data }], guard := none }) rfl (fun K hK => ?_) AllReadyIn.nil)
                go_simp
                (try refine ⟨trivial, ?_⟩)
                gi_at_call 145
                refine (callsIn_wide.2 (behind_any K3.out.a.br.drew y)).mono ?_
                rintro e w4 ⟨rfl, hb4⟩
                have hb4 := below_undrew hb4
                have K4 := Lib.hid (K3.out.below hb4)
                have B4 := Lib.hid hb4
                obtain ⟨v0, v1, v2, v3, v4, v5, v6, v7, vf⟩ := K4.out.a.br.cells
                have vp := K4.out.a.pc
                clear hb4 v2 v3 v4 v5 v6 v7
                refine hK _ _ ?_
                clear hK K
                try simp only [Act.put, List.setIfInBounds_toArray, List.set_cons_zero, List.set_cons_succ]
                refine wpAnyIn_ready (rs := [4]) (by kernel_rfl) (by simp) (AllReadyIn.cons (o := { dst := some 62, op := Op.nilCheck (Operand.tmp 58), type := 0, pos := "paint.go:157", after := #[{ on := 0, ground := Ground.data }, { on := 0, ground := Ground.phase }, { on := 1, ground := Ground.phase }, { on := 2, ground := Ground.phase }, { on := 3, ground := Ground.phase }], guard := none }) rfl (fun K hK => ?_) AllReadyIn.nil)
                go_simp
                refine hK _ _ ?_
                clear hK K
                try simp only [Act.put, List.setIfInBounds_toArray, List.set_cons_zero, List.set_cons_succ]
                refine wpAnyIn_ready (rs := [5]) (by kernel_rfl) (by simp) (AllReadyIn.cons (o := { dst := some 63, op := Op.fieldAddr 117 (Operand.tmp 62) 1, type := 0, pos := "paint.go:157", after := #[{ on := 4, ground := Ground.data }, { on := 0, ground := Ground.phase }, { on := 1, ground := Ground.phase }, { on := 2, ground := Ground.phase }, { on := 3, ground := Ground.phase }], guard := none }) rfl (fun K hK => ?_) AllReadyIn.nil)
                go_simp
                refine hK _ _ ?_
                clear hK K
                try simp only [Act.put, List.setIfInBounds_toArray, List.set_cons_zero, List.set_cons_succ]
                refine wpAnyIn_ready (rs := [6]) (by kernel_rfl) (by simp) (AllReadyIn.cons (o := { dst := none, op := Op.store 3 (Operand.tmp 63) (Operand.tmp 61), type := 0, pos := "paint.go:157", after := #[{ on := 5, ground := Ground.data }, { on := 3, ground := Ground.data }, { on := 3, ground := Ground.chain }, { on := 0, ground := Ground.phase }, { on := 1, ground := Ground.phase }, { on := 2, ground := Ground.phase }, { on := 3, ground := Ground.phase }], guard := none }) rfl (fun K hK => ?_) AllReadyIn.nil)
                go_simp
                refine hK _ _ ?_
                clear hK K
                try simp only [Act.put, List.setIfInBounds_toArray, List.set_cons_zero, List.set_cons_succ]
                refine wpAnyIn_done (by kernel_rfl) ?_ _
                gi_wp2_with fail
                exact tab_stop K4.out (B3.out.trans (B4.out.mono B3.out.size)) HNO.out HNG.out (by omega) (by have := HML.out; omega)
              · go_simp
                (try refine ⟨trivial, ?_⟩)
                gi_at_call 145
                refine (callsIn_wide.2 (behind_any K3.out.a.br.drew y)).mono ?_
                rintro e w4 ⟨rfl, hb4⟩
                have hb4 := below_undrew hb4
                have K4 := Lib.hid (K3.out.below hb4)
                have B4 := Lib.hid hb4
                obtain ⟨v0, v1, v2, v3, v4, v5, v6, v7, vf⟩ := K4.out.a.br.cells
                have vp := K4.out.a.pc
                clear hb4 v2 v3 v4 v5 v6 v7
                refine hK _ _ ?_
                clear hK K
                try simp only [Act.put, List.setIfInBounds_toArray, List.set_cons_zero, List.set_cons_succ]
                refine wpAnyIn_ready (rs := [0]) (by kernel_rfl) (by simp) (AllReadyIn.cons (o := { dst := some 58, op := Op.load 148 (Operand.tmp 2), type := 148, pos := "paint.go:157", after := #[], guard := none }) rfl (fun K hK => ?_) AllReadyIn.nil)
                go_simp
                refine hK _ _ ?_
                clear hK K
                try simp only [Act.put, List.setIfInBounds_toArray, List.set_cons_zero, List.set_cons_succ]
                refine wpAnyIn_ready (rs := [4]) (by kernel_rfl) (by simp) (AllReadyIn.cons (o := { dst := some 62, op := Op.nilCheck (Operand.tmp 58), type := 0, pos := "paint.go:157", after := #[{ on := 0, ground := Ground.data }, { on := 0, ground := Ground.phase }, { on := 1, ground := Ground.phase }, { on := 2, ground := Ground.phase }, { on := 3, ground := Ground.phase }], guard := none }) rfl (fun K hK => ?_) AllReadyIn.nil)
                go_simp
                refine hK _ _ ?_
                clear hK K
                try simp only [Act.put, List.setIfInBounds_toArray, List.set_cons_zero, List.set_cons_succ]
                refine wpAnyIn_ready (rs := [5]) (by kernel_rfl) (by simp) (AllReadyIn.cons (o := { dst := some 63, op := Op.fieldAddr 117 (Operand.tmp 62) 1, type := 0, pos := "paint.go:157", after := #[{ on := 4, ground := Ground.data }, { on := 0, ground := Ground.phase }, { on := 1, ground := Ground.phase }, { on := 2, ground := Ground.phase }, { on := 3, ground := Ground.phase }], guard := none }) rfl (fun K hK => ?_) AllReadyIn.nil)
                go_simp
                refine hK _ _ ?_
                clear hK K
                try simp only [Act.put, List.setIfInBounds_toArray, List.set_cons_zero, List.set_cons_succ]
                refine wpAnyIn_ready (rs := [6]) (by kernel_rfl) (by simp) (AllReadyIn.cons (o := { dst := none, op := Op.store 3 (Operand.tmp 63) (Operand.tmp 61), type := 0, pos := "paint.go:157", after := #[{ on := 5, ground := Ground.data }, { on := 3, ground := Ground.data }, { on := 3, ground := Ground.chain }, { on := 0, ground := Ground.phase }, { on := 1, ground := Ground.phase }, { on := 2, ground := Ground.phase }, { on := 3, ground := Ground.phase }], guard := none }) rfl (fun K hK => ?_) AllReadyIn.nil)
                go_simp
                refine hK _ _ ?_
                clear hK K
                try simp only [Act.put, List.setIfInBounds_toArray, List.set_cons_zero, List.set_cons_succ]
                refine wpAnyIn_done (by kernel_rfl) ?_ _
                gi_wp2_with fail
                exact tab_stop K4.out (B3.out.trans (B4.out.mono B3.out.size)) HNO.out HNG.out (by omega) (by have := HML.out; omega)
      case done2 =>
        rintro D ys W hD rfl ⟨hT', hno⟩ hK
        have HV := Lib.hid hT'
        have HNO := Lib.hid hno
        clear hT' hno
        gi_wp2
        have hG := HV.out.grown (grownBy_putObj' W D (.deferred none)) (fun r e => by cases e; exact ⟨by omega, _, hK, rfl⟩)
        refine ⟨by simp, .inl ⟨_, _, rfl, run_takeDeferred hK, ?_⟩⟩
        have hK2 := hG.ex D1 (by simp)
        refine ⟨by simp, .inl ⟨_, _, rfl, run_takeDeferred hK2.2.2, ?_⟩⟩
        refine ⟨_, results_tmp rfl _ _ _, ?_⟩
        have hA := hG.a.grown (grownBy_putObj' _ D1 (.deferred none)) (fun r e => by cases e; exact ⟨by omega, _, hK2.2.2, rfl⟩)
        refine ⟨?_, ?_, hA.tn⟩
        · rfl
        · have he : tabTo MM (betw M.length p 0) = 0 := tabTo_none (by first | exact HNO.out | (rw [← HML.out.1]; exact HNO.out))
          show BrAt _ s b g r c (Bs.tab ⟨M, cur, p, look, true⟩)
          unfold Bs.tab Bs.tabM
          simp only [if_true, HTW.out, he]
          exact hA.br
      case stop2 =>
        rintro D c' pre W hD hpre ⟨rfl, pre', x, rfl, hno, hgd, hT'⟩ hK
        have HV := Lib.hid hT'
        have HNO := Lib.hid hno
        have HGD := Lib.hid hgd
        have HPRE := Lib.hid hpre
        clear hT' hno hgd hpre
        gi_wp2
        have hG := HV.out.grown (grownBy_putObj' W D (.deferred none)) (fun r e => by cases e; exact ⟨by omega, _, hK, rfl⟩)
        refine ⟨by simp, .inl ⟨_, _, rfl, run_takeDeferred hK, ?_⟩⟩
        have hK2 := hG.ex D1 (by simp)
        refine ⟨by simp, .inl ⟨_, _, rfl, run_takeDeferred hK2.2.2, ?_⟩⟩
        refine ⟨_, results_tmp rfl _ _ _, ?_⟩
        have hA := hG.a.grown (grownBy_putObj' _ D1 (.deferred none)) (fun r e => by cases e; exact ⟨by omega, _, hK2.2.2, rfl⟩)
        refine ⟨?_, ?_, hA.tn⟩
        · rfl
        · have he : tabTo MM (betw M.length p 0) = mv MM.length x 1 := tabTo_hit (by first | exact HPRE.out | (rw [← HML.out.1]; exact HPRE.out)) HNO.out HGD.out
          show BrAt _ s b g r c (Bs.tab ⟨M, cur, p, look, true⟩)
          unfold Bs.tab Bs.tabM
          simp only [if_true, HTW.out, he]
          exact hA.br
    
end Go.Proofs.Ytglkjcdbffkbcaa.Pl
