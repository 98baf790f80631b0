/-
  The walk of PaintKeeps.
-/
import Derived.Test.YtglkjcdbffkbcaaPaM
import Derived.Test.YtglkjcdbffkbcaaMaskA
import Derived.Maps.Views
namespace Go.Proofs.Ytglkjcdbffkbcaa.Pl
open Go.RowKit Go.Shelf Go.Maps Base
set_option linter.unusedVariables false
set_option linter.unusedSimpArgs false

/-- Three planes beside one another. -/
structure Tri (w : World) (b g b2 g2 b3 g3 : Nat) (r c : Int) (c1 c2 c3 : Int) (L1 L2 L3 : List Cl) (W : World) : Prop where
  p : P1 w b g r c c1 L1 W
  q : P1 w b2 g2 r c c2 L2 W
  r : P1 w b3 g3 r c c3 L3 W
  old : Below w.heap.size w W
  n12 : b ≠ b2 ∧ b ≠ g2 ∧ g ≠ b2 ∧ g ≠ g2
  n13 : b ≠ b3 ∧ b ≠ g3 ∧ g ≠ b3 ∧ g ≠ g3
  n23 : b2 ≠ b3 ∧ b2 ≠ g3 ∧ g2 ≠ b3 ∧ g2 ≠ g3
section
variable {w W W' : World} {b g b2 g2 b3 g3 : Nat} {r c c1 c2 c3 : Int} {L1 L2 L3 : List Cl}
theorem Tri.below (h : Tri w b g b2 g2 b3 g3 r c c1 c2 c3 L1 L2 L3 W) (t : Below W.heap.size W W') : Tri w b g b2 g2 b3 g3 r c c1 c2 c3 L1 L2 L3 W' :=
  ⟨h.p.below t, h.q.below t, h.r.below t, h.old.trans (t.mono h.old.size), h.n12, h.n13, h.n23⟩
theorem Tri.one (h : Tri w b g b2 g2 b3 g3 r c c1 c2 c3 L1 L2 L3 W) {c1' : Int} {L1' : List Cl} (hp : PlAt W' b g r c c1' L1') (t : Turn (Or2 (At b) (At g)) W W') : Tri w b g b2 g2 b3 g3 r c c1' c2 c3 L1' L2 L3 W' := by
  obtain ⟨x1, x2, x3, x4⟩ := h.n12
  obtain ⟨y1, y2, y3, y4⟩ := h.n13
  exact ⟨⟨hp, h.p.lb, h.p.lg⟩, h.q.beside t x1.symm x3.symm x2.symm x4.symm, h.r.beside t y1.symm y3.symm y2.symm y4.symm, old_turn h.old t h.p.lb h.p.lg, h.n12, h.n13, h.n23⟩
theorem Tri.two (h : Tri w b g b2 g2 b3 g3 r c c1 c2 c3 L1 L2 L3 W) {c1' : Int} {L1' : List Cl} (hp : PlAt W' b2 g2 r c c1' L1') (t : Turn (Or2 (At b2) (At g2)) W W') : Tri w b g b2 g2 b3 g3 r c c1 c1' c3 L1 L1' L3 W' := by
  obtain ⟨x1, x2, x3, x4⟩ := h.n12
  obtain ⟨y1, y2, y3, y4⟩ := h.n23
  exact ⟨h.p.beside t x1 x2 x3 x4, ⟨hp, h.q.lb, h.q.lg⟩, h.r.beside t y1.symm y3.symm y2.symm y4.symm, old_turn h.old t h.q.lb h.q.lg, h.n12, h.n13, h.n23⟩
theorem Tri.three (h : Tri w b g b2 g2 b3 g3 r c c1 c2 c3 L1 L2 L3 W) {c1' : Int} {L1' : List Cl} (hp : PlAt W' b3 g3 r c c1' L1') (t : Turn (Or2 (At b3) (At g3)) W W') : Tri w b g b2 g2 b3 g3 r c c1 c2 c1' L1 L2 L1' W' := by
  obtain ⟨x1, x2, x3, x4⟩ := h.n13
  obtain ⟨y1, y2, y3, y4⟩ := h.n23
  exact ⟨h.p.beside t x1 x2 x3 x4, h.q.beside t y1 y2 y3 y4, ⟨hp, h.r.lb, h.r.lg⟩, old_turn h.old t h.r.lb h.r.lg, h.n12, h.n13, h.n23⟩
theorem Tri.made (h : P1 w b g r c c1 L1 W) (ho : Below w.heap.size w W) {W1 W2 : World} (h2 : PlAt W1 b2 g2 r c c2 L2) (t1 : Below W.heap.size W W1) (lb2 : W.heap.size ≤ b2) (lg2 : W.heap.size ≤ g2) (h3 : PlAt W2 b3 g3 r c c3 L3) (t2 : Below W1.heap.size W1 W2) (lb3 : W1.heap.size ≤ b3) (lg3 : W1.heap.size ≤ g3) :
    Tri w b g b2 g2 b3 g3 r c c1 c2 c3 L1 L2 L3 W2 := by
  have e1 := h.pl.lt
  have e2 := h.pl.ltg
  have e3 := h2.lt
  have e4 := h2.ltg
  have e5 := ho.size
  have e6 := t1.size
  exact ⟨(h.below t1).below t2, ⟨h2.below t2, by omega, by omega⟩, ⟨h3, by omega, by omega⟩, (ho.trans (t1.mono e5)).trans (t2.mono (by omega)), ⟨by omega, by omega, by omega, by omega⟩, ⟨by omega, by omega, by omega, by omega⟩, ⟨by omega, by omega, by omega, by omega⟩⟩
end
/-- Two orders, written out, the first of one byte. -/
theorem row2p (T : Nat → Prop) (W : World) (k0 n : Int) (h0 : T W.heap.size) (h1 : T (W.heap.size + 1)) :
    OrdsIn T ((W.alloc (.cells #[.int .u8 n] 5)).alloc (.cells #[.int .u8 0, .int .i64 0, .int .u8 0, .bool false, .slice none 0 0, .slice (some ⟨W.heap.size, 0, none⟩) 1 1, .int .u8 k0, .int .i64 0, .int .u8 0, .bool false, .slice none 0 0, .slice none 0 0] 73))
      (.slice (some ⟨W.heap.size + 1, 0, none⟩) 2 2) [⟨0, 0, 0, false, [], [n]⟩, ⟨k0, 0, 0, false, [], []⟩] := by
  have e2 := heap_alloc_new (W.alloc (.cells #[.int .u8 n] 5)) (.cells #[.int .u8 0, .int .i64 0, .int .u8 0, .bool false, .slice none 0 0, .slice (some ⟨W.heap.size, 0, none⟩) 1 1, .int .u8 k0, .int .i64 0, .int .u8 0, .bool false, .slice none 0 0, .slice none 0 0] 73)
  have hb := below_alloc (W.alloc (.cells #[.int .u8 n] 5)) (.cells #[.int .u8 0, .int .i64 0, .int .u8 0, .bool false, .slice none 0 0, .slice (some ⟨W.heap.size, 0, none⟩) 1 1, .int .u8 k0, .int .i64 0, .int .u8 0, .bool false, .slice none 0 0, .slice none 0 0] 73)
  have e1 := (hb.block W.heap.size (by simp)).trans (heap_alloc_new W (.cells #[.int .u8 n] 5))
  rw [World.size_alloc] at e2
  obtain ⟨X, hX⟩ : ∃ X, X = (W.alloc (.cells #[.int .u8 n] 5)).alloc (.cells #[.int .u8 0, .int .i64 0, .int .u8 0, .bool false, .slice none 0 0, .slice (some ⟨W.heap.size, 0, none⟩) 1 1, .int .u8 k0, .int .i64 0, .int .u8 0, .bool false, .slice none 0 0, .slice none 0 0] 73) := ⟨_, rfl⟩
  rw [← hX] at e1 e2 ⊢
  clear hb hX
  refine ⟨_, 2, rfl, by simp, (fun e => by cases e), fun _ => ⟨W.heap.size + 1, 0, rfl, h1, lt_of_block e2, fun i o ho => ?_⟩⟩
  match i, ho with
  | 0, ho =>
    obtain rfl := Option.some.inj ho
    refine ⟨_, .slice (some ⟨W.heap.size, 0, none⟩) 1 1, ⟨by simp [World.cell?, e2], by simp [World.cell?, e2], by simp [World.cell?, e2], by simp [World.cell?, e2], by simp [World.cell?, e2], by simp [World.cell?, e2]⟩, no_pairs _ _, ⟨_, 1, rfl, fun _ => ⟨W.heap.size, 0, rfl, h0, lt_of_block e1, fun j hj => ?_⟩⟩⟩
    have : j = 0 := by simp at hj; omega
    subst this
    simp [World.cell?, e1]
  | 1, ho =>
    obtain rfl := Option.some.inj ho
    exact ⟨_, _, ⟨by simp [World.cell?, e2], by simp [World.cell?, e2], by simp [World.cell?, e2], by simp [World.cell?, e2], by simp [World.cell?, e2], by simp [World.cell?, e2]⟩, no_pairs _ _, RowIn.nil _ _ _⟩
/-- The places that were seen. -/
def seenS (n f : Int) : Nat → DataW Unit
  | 0 => .map []
  | k + 1 => (seenS n f k).put (.int .i64 (step n f k)) (.lit (.bool true))
theorem lit_neI {a b : Int} (h : a ≠ b) : (Lit.int .i64 a) ≠ .int .i64 b := fun e => h (Lit.int.inj e).2
theorem seenS_tidy (n f : Int) : ∀ k, Tidy (seenS n f k)
  | 0 => ⟨[], rfl, List.Pairwise.nil⟩
  | k + 1 => Tidy.put (k := .int .i64 (step n f k)) (seenS_tidy n f k) trivial _
theorem seenS_at (n f y : Int) : ∀ k, (seenS n f k).atKey (.int .i64 y) (.lit (.bool false)) = .lit (.bool (decide (y ∈ first n f k)))
  | 0 => by simp [seenS, DataW.atKey, first]
  | k + 1 => by
    unfold seenS
    by_cases h : step n f k = y
    · rw [h, atKey_put_same (k := .int .i64 y) (seenS_tidy n f k).isMap trivial, decide_eq_true]
      rw [first_succ, h]; simp
    · rw [atKey_put_other (lit_neI (fun e => h e.symm)), seenS_at n f y k]
      congr 2
      rw [first_succ]
      simp [show ¬ y = step n f k from fun e => h e.symm]
theorem kzero_bool (w : World) : (zeroValue 4).run Try.prog w = .ok (.bool false) w := by kernel_rfl
set_option maxRecDepth 100000 in
theorem kplain_bool {v : Value} {b : Bool} {ps : List MemPlace} (h : plainElem (H := Unit) Try.prog 4 v = some (.lit (.bool b), ps)) : v = .bool b := by
  unfold plainElem at h
  rw [Try.underlying4] at h
  cases v <;> simp at h
  rw [h.1]
/-- Three planes beside the map of places. -/
structure KsQ (w : World) (b g b2 g2 b3 g3 : Nat) (r c : Int) (c2 c3 : Int) (L1 L2 L3 : List Cl) (mb n : Nat) (p : Int) (k : Nat) (W : World) : Prop where
  t : Tri w b g b2 g2 b3 g3 r c 0 c2 c3 L1 L2 L3 W
  mp : W.ownsMap Try.prog 3 (plainElem (H := Unit) Try.prog 4) mb k (seenS n p k)
  lm : w.heap.size ≤ mb
section
variable {w W W' : World} {b g b2 g2 b3 g3 : Nat} {r c c2 c3 : Int} {L1 L2 L3 : List Cl} {mb n : Nat} {p : Int} {k : Nat}
theorem KsQ.below (h : KsQ w b g b2 g2 b3 g3 r c c2 c3 L1 L2 L3 mb n p k W) (t : Below W.heap.size W W') : KsQ w b g b2 g2 b3 g3 r c c2 c3 L1 L2 L3 mb n p k W' :=
  ⟨h.t.below t, h.mp.kept (row := none) (grown_of_below t) (by simp), h.lm⟩
theorem kmap_block {R : Value → Option (DataW Unit × List MemPlace)} {m : Nat} {D : DataW Unit} (h : W.ownsMap Try.prog 3 R mb m D) : ∃ o : Obj, W.heap[mb]? = some o ∧ o.isCells = false := by
  obtain ⟨es, clock, hb, _⟩ := h
  exact ⟨_, hb, rfl⟩
theorem KsQ.put (h : KsQ w b g b2 g2 b3 g3 r c c2 c3 L1 L2 L3 mb n p k W) (hg : W.grownBy W' (some mb)) (hm : W'.ownsMap Try.prog 3 (plainElem (H := Unit) Try.prog 4) mb (k + 1) (seenS n p (k + 1))) : KsQ w b g b2 g2 b3 g3 r c c2 c3 L1 L2 L3 mb n p (k + 1) W' := by
  have hr : ∀ x, some mb = some x → ∃ o : Obj, W.heap[x]? = some o ∧ o.isCells = false := fun x e => by cases e; exact kmap_block h.mp
  have hl := h.lm
  exact ⟨⟨⟨h.t.p.pl.grown hg hr, h.t.p.lb, h.t.p.lg⟩, ⟨h.t.q.pl.grown hg hr, h.t.q.lb, h.t.q.lg⟩, ⟨h.t.r.pl.grown hg hr, h.t.r.lb, h.t.r.lg⟩, h.t.old.grown hg h.t.old.size (fun j e => by cases e; exact hl), h.t.n12, h.t.n13, h.t.n23⟩, hm, hl⟩
theorem KsQ.turn (h : KsQ w b g b2 g2 b3 g3 r c c2 c3 L1 L2 L3 mb n p k W) {L1' : List Cl} (hp : PlAt W' b g r c 0 L1') (t : Turn (Or2 (At b) (At g)) W W') : KsQ w b g b2 g2 b3 g3 r c c2 c3 L1' L2 L3 mb n p k W' := by
  obtain ⟨A, B, h1, h2⟩ := h.t.p.pl.blocks
  obtain ⟨es, clock, hb, hr⟩ := h.mp
  refine ⟨h.t.one hp t, ⟨es, clock, (t.block mb (lt_of_block hb) (fun e => ?_)).trans hb, hr⟩, h.lm⟩
  rcases (show mb = b ∨ mb = g from e) with rfl | rfl
  · rw [h1] at hb; cases hb
  · rw [h2] at hb; cases hb
theorem KsQ.look (h : KsQ w b g b2 g2 b3 g3 r c c2 c3 L1 L2 L3 mb n p k W) (y : Int) (hy : keyOf Try.prog 3 (.int .i64 y) = some (.int .i64 y)) {v : Bool} (hv : v = decide (y ∈ first n p k)) :
    (Instr.lookup 77 (.map (some mb)) (.int .i64 y) false).run Try.prog W = .ok (.bool v) W := by
  obtain ⟨u, ps, hrun, hu⟩ := h.mp.lookup (int_keyed Try.underlying3) Try.underlying77 (kzero_bool W) (plainElem_bool Try.underlying4 false) hy
  rw [seenS_at, ← hv] at hu
  rw [hrun, kplain_bool hu]
end
theorem P1.drew {w W : World} {b g : Nat} {r c cur : Int} {L : List Cl} (h : P1 w b g r c cur L W) : P1 w b g r c cur L W.drew := ⟨h.pl.drew, h.lb, h.lg⟩
theorem P1.drewN {w W : World} {b g : Nat} {r c cur : Int} {L : List Cl} (h : P1 w b g r c cur L W) (n : Nat) : P1 w b g r c cur L (W.drewN n) := ⟨h.pl.drewN n, h.lb, h.lg⟩
set_option maxRecDepth 100000 in
set_option maxHeartbeats 8000000 in
theorem paintKeeps_law {w : World} (r c : Int) {p1 p2 p4 p5 : Prop} (_ : p1) (_ : p2) (v0 : Value) (L0 : List Cl) (hL : ClsAt w v0 L0 ∧ L0.length ≤ maxLen ∧ ∀ x ∈ L0, x.Ok) (f : Int) (_ : p4) (t : Int) (_ : p5) (y : Int) (hy : (Lit.int .u8 y).wf = true) :
    Calls Try.prog 6 #[.agg #[.int .i64 r, .int .i64 c], v0, .int .i64 f, .int .i64 t, .int .u8 y] w fun e W => e = .returned (.bool true) ∧ Below w.heap.size w W := by
  obtain ⟨hv, hm, hok⟩ := hL
  obtain ⟨a0, cap0, hv0, _⟩ := id hv
  subst hv0
  obtain ⟨m0, hm0⟩ : ∃ m0, m0 = L0.length := ⟨_, rfl⟩
  have HV := Lib.hid hv
  have HM := Lib.hid hm
  have HOK := Lib.hid hok
  rw [← hm0] at HV hm ⊢
  have HM0 := Lib.hid hm0
  obtain ⟨W0, hW0⟩ : ∃ W0, W0 = w.alloc (.cells #[.int .i64 r, .int .i64 c] 23) := ⟨_, rfl⟩
  have hn0 : W0.heap[w.heap.size]? = some (.cells #[.int .i64 r, .int .i64 c] 23 (0, 0)) := by rw [hW0]; exact heap_alloc_new w _
  have HN0 := Lib.hid hn0
  have B0 := Lib.hid (show Below w.heap.size w W0 by rw [hW0]; exact below_alloc w _)
  have HW0 := Lib.hid hW0.symm
  clear hv hok hm0 hW0 hn0 hm
  go_enter Try.func6, Try.ntmps6
  go_wp2_with fail
  rw [HW0.out]
  go_wp2_with (go_at_call 31; (with_reducible refine (pt_alive W0).mono ?_); rintro e w1 ⟨rfl, hb1⟩
               have n1 := (hb1.block _ (lt_of_block HN0.out)).trans HN0.out
               have q0 : w1.cell? ⟨w.heap.size, 0, none⟩ = some (.int .i64 r) := by simp [World.cell?, n1]
               have q1 : w1.cell? ⟨w.heap.size, 1, none⟩ = some (.int .i64 c) := by simp [World.cell?, n1]
               have B1 := Lib.hid (B0.out.trans (hb1.mono B0.out.size)); clear hb1 n1)
  go_at_call 32
  refine (made_any r c (.slice a0 m0 cap0) L0 w1 (HV.out.below (B1.out.mono (Nat.le_refl _))) HM.out).mono ?_
  rintro e w2 (⟨hno, pv, r', c', a', l', k', rfl, hb2⟩ | ⟨b, g, gx, n, hcn, hn1, hn2, rfl, hpl, hrow, hb, hg, hgx, hgb, hgg, hb2⟩)
  · unfold xV
    go_wp2_with fail
    go_ret
    exact ⟨rfl, B1.out.trans ((hb2.mono B1.out.size).alloc (by have := B1.out.size; have := hb2.size; omega) _)⟩
  unfold xV
  obtain ⟨L, hL⟩ : ∃ L, L = mL n L0 L0.length := ⟨_, rfl⟩
  rw [← hL] at hpl hrow
  have hlen : L.length = n := by rw [hL, mL_length]
  have hbo : BoL L := bo_all (fun x hx => by rw [hL] at hx; exact (mL_ok n HOK.out _ x hx).1)
  have hs1 := B1.out.size
  have HP := Lib.hid (show P1 w b g r c 0 L (w2.alloc (.cells #[.int .i64 r, .int .i64 c, .slice (some ⟨gx, 0, none⟩) n n, .int .i64 0] 28)) from ⟨hpl.alloc _, by omega, by omega⟩)
  have HO := Lib.hid ((B1.out.trans (hb2.mono hs1)).alloc (by have := hb2.size; omega) (.cells #[.int .i64 r, .int .i64 c, .slice (some ⟨gx, 0, none⟩) n n, .int .i64 0] 28))
  have HBO := Lib.hid hbo
  have HLN := Lib.hid hlen
  clear hpl hrow hb2 hL hcn q0 q1 hb hg hgx hgb hgg hlen hbo hs1
  go_upto_region 6 with fail
  obtain ⟨w3, hw3⟩ : ∃ w3, w3 = w2.alloc (.cells #[.int .i64 r, .int .i64 c, .slice (some ⟨gx, 0, none⟩) n n, .int .i64 0] 28) := ⟨_, rfl⟩
  rw [← hw3] at HP HO ⊢
  clear hw3
  obtain ⟨j1, hand1, _, _⟩ := Go.Proofs.Ytglkjcdbffkbcaa.Mask.mask_nat f 255 8 256 (by omega) (by decide) (by decide)
  obtain ⟨j2, hand2, _, _⟩ := Go.Proofs.Ytglkjcdbffkbcaa.Mask.mask_nat t 255 8 256 (by omega) (by decide) (by decide)
  obtain ⟨p, hp⟩ : ∃ p, p = (j1 : Int) % (n : Int) := ⟨_, rfl⟩
  obtain ⟨z, hz⟩ : ∃ z, z = (j2 : Int) % (n : Int) := ⟨_, rfl⟩
  have hp0 : 0 ≤ p := by rw [hp]; exact Int.emod_nonneg _ (by omega)
  have hp1 : p < (n : Int) := by rw [hp]; exact Int.emod_lt_of_pos _ (by omega)
  have hz0 : 0 ≤ z := by rw [hz]; exact Int.emod_nonneg _ (by omega)
  have hz1 : z < (n : Int) := by rw [hz]; exact Int.emod_lt_of_pos _ (by omega)
  have hand1' : bits .and .i64 f 255 = (j1 : Int) := hand1
  have hand2' : bits .and .i64 t 255 = (j2 : Int) := hand2
  have htm1 : (bits .and .i64 f 255).tmod (n : Int) = p := by rw [hand1', Int.tmod_eq_emod_of_nonneg (by omega), hp]
  have htm2 : (bits .and .i64 t 255).tmod (n : Int) = z := by rw [hand2', Int.tmod_eq_emod_of_nonneg (by omega), hz]
  have hnz : ¬ (n : Int) = 0 := by omega
  have hnz2 : ¬ n = 0 := by omega
  have hwp : IntKind.i64.wrap p = p := by simp [IntKind.wrap, IntKind.bits]; omega
  have hwz : IntKind.i64.wrap z = z := by simp [IntKind.wrap, IntKind.bits]; omega
  clear hand1 hand2 hand1' hand2' hp hz
  have HLEN := Lib.hid (fun (X : World) (hX : P1 w b g r c 0 L X) => show Calls Try.prog 37 #[.pointer (some ⟨b, 0, none⟩)] X fun e X' => e = .returned (.int .i64 (n : Nat)) ∧ X = X' by have := len_any hX.pl; rwa [HLN.out] at this)
  have HPD := Lib.hid HP.out.drew
  go_cut [2, 3] (fun u2 u3 wx => u2 = .int .i64 p ∧ u3 = .int .i64 z ∧ wx = w3.drew)
  case first =>
    first
      | (go_region_held3 (fun X => X = w3.drew)
          (with_reducible (first | assumption | rfl))
          (first
            | (go_at_call 37; (with_reducible refine (HLEN.out _ HPD.out).mono ?_); rintro e w5 ⟨rfl, rfl⟩)))
      | fail
    all_goals
      go_wp2_with fail
      go_meet
      case rel => exact ⟨rfl, rfl, rfl⟩
  case rest =>
  obtain ⟨rfl, rfl, rfl⟩ := hcut
  have HO2 := Lib.hid (below_drew HO.out)
  clear HP HO HLEN htm1 htm2 hnz hwp hwz
  go_wp2_with (first
    | (go_at_call 38; refine (clone_any HC1.out.pl).mono ?_; rintro e w6 ⟨b3, g3, rfl, hp6, hb6, lb3, lg3⟩; have HX := Lib.hid (Tri.made HPD.out HO2.out HC0.out.1 HC0.out.2.1 HC0.out.2.2.1 HC0.out.2.2.2 hp6 hb6 lb3 lg3); clear hp6 hb6 lb3 lg3)
    | (go_at_call 38; refine (clone_any HPD.out.pl).mono ?_; rintro e w5 ⟨b2, g2, rfl, hp5, hb5, lb2, lg2⟩; have HC1 := Lib.hid (HPD.out.below hb5); have HC0 := Lib.hid (And.intro hp5 (And.intro hb5 (And.intro lb2 lg2))); clear hp5 hb5 lb2 lg2))
  obtain ⟨M2, hpe, hce⟩ := paint_eua (L := L) hp0 (by rw [HLN.out]; exact hp1) hz0 (by rw [HLN.out]; exact hz1)
  obtain ⟨M3, pp, hpt, hct1, hct2⟩ := paint_pt (L := L) (y := y) hp0 (by rw [HLN.out]; exact hp1)
  obtain ⟨M1, hpr, hcr⟩ := paint_ra (L := L) (y := y) hp0 (by rw [HLN.out]; exact hp1) hz0 (by rw [HLN.out]; exact hz1)
  have hmb := many_bd (n : Int) p z (inn_ok hp0 hp1 hz0 hz1)
  have hse := fun i h => step_end (n : Int) p z i (inn_ok hp0 hp1 hz0 hz1) h
  rw [HLN.out] at hce hct2 hcr
  obtain ⟨N, hN⟩ : ∃ N, N = many (n : Int) p z := ⟨_, rfl⟩
  rw [← hN] at hmb hse hce hcr
  have HCE := Lib.hid hce
  have HCT1 := Lib.hid hct1
  have HCT2 := Lib.hid hct2
  have HCR := Lib.hid hcr
  have HPR := Lib.hid hpr
  have HSE := Lib.hid hse
  have hy2 := u8_bd hy
  have n1 := HX.out.q.pl.lt
  have n2 := HX.out.q.pl.ltg
  have hx1 := HX.out.below (below_alloc w6 (.cells #[.int .u8 18, .int .i64 z, .int .u8 0, .bool false, .slice none 0 0, .slice none 0 0] 73))
  have hpa := paint_any (os := [⟨18, z, 0, false, [], []⟩]) (row1o (fun k => k ≠ b2 ∧ k ≠ g2) w6 18 z 0 false [] (.slice none 0 0) (RowIn.nil _ _ _) (by omega)) (fun o ho => by
    rw [List.mem_singleton.1 ho]
    exact or_ok (by unfold Byte; omega) (by unfold I64o; omega) (by unfold Byte; omega) (fun n h => by cases h) (Nat.zero_le _)) (by simp) hx1.q.pl HBO.out p
  rw [hpe] at hpa
  unfold PQ at hpa
  simp only at hpa
  (with_reducible refine hpa.mono ?_)
  rintro e w7 ⟨rfl, hp7, _, ht7⟩
  have HX7 := Lib.hid (hx1.two hp7 ht7)
  clear hpa hx1 hp7 ht7 HX HC0 HC1 HPD HO2 hpe hce hct1 hct2 hcr hpr hse hN n1 n2
  go_wp2_with fail
  have n1 := HX7.out.r.pl.lt
  have n2 := HX7.out.r.pl.ltg
  have hx1 := HX7.out.below ((below_alloc w7 (.cells #[.int .u8 y] 5)).trans ((below_alloc (w7.alloc (.cells #[.int .u8 y] 5)) (.cells #[.int .u8 0, .int .i64 0, .int .u8 0, .bool false, .slice none 0 0, .slice (some ⟨w7.heap.size, 0, none⟩) 1 1, .int .u8 5, .int .i64 0, .int .u8 0, .bool false, .slice none 0 0, .slice none 0 0] 73)).mono (by simp)))
  have hpa := paint_any (os := [⟨0, 0, 0, false, [], [y]⟩, ⟨5, 0, 0, false, [], []⟩]) (row2p (fun k => k ≠ b3 ∧ k ≠ g3) w7 5 y (by omega) (by omega)) (fun o ho => by
    simp only [List.mem_cons, List.not_mem_nil, or_false] at ho
    rcases ho with rfl | rfl
    · exact or_ok (by unfold Byte; omega) (by unfold I64o; omega) (by unfold Byte; omega) (fun n h => by rw [List.mem_singleton.1 h]; unfold Byte; omega) (by unfold maxLen; simp)
    · exact or_ok (by unfold Byte; omega) (by unfold I64o; omega) (by unfold Byte; omega) (fun n h => by cases h) (Nat.zero_le _)) (by simp) hx1.r.pl HBO.out p
  rw [hpt] at hpa
  unfold PQ at hpa
  simp only at hpa
  (with_reducible refine hpa.mono ?_)
  rintro e w8 ⟨rfl, hp8, _, ht8⟩
  have HX8 := Lib.hid (hx1.three hp8 ht8)
  clear hpa hx1 hp8 ht8 HX7 hpt n1 n2
  have hne1 : (z != z) = false := by simp
  have hmm : ∀ w : World, (Instr.makeMap 77 none).run Try.prog w = .ok (.map (some w.heap.size)) (w.alloc (.map #[] 0)) := fun _ => by kernel_rfl
  have hmk := World.ownsMap_made w8 Try.prog 3 (plainElem (H := Unit) Try.prog 4)
  have HK0 := Lib.hid (show KsQ w b g b2 g2 b3 g3 r c 0 0 L M2 M3 w8.heap.size n p 0 (w8.alloc (.map #[] 0)) from ⟨HX8.out.below (below_alloc _ _), hmk, by have := HX8.out.old.size; omega⟩)
  clear hmk
  go_wp2_with fail
  clear hmm hne1
  go_loopw [23] (fun q wr => ∃ k : Nat, q = .int .i64 k ∧ k ≤ N ∧ KsQ w b g b2 g2 b3 g3 r c 0 0 L M2 M3 w8.heap.size n p k wr) (fun q _ => N - (intOf q).toNat)
  case atStart => exact ⟨0, rfl, Nat.zero_le _, HK0.out⟩
  case round =>
    obtain ⟨k, rfl, hk, hq⟩ := hrel
    have HQ := Lib.hid hq
    clear HK0 hq HX8
    have hpk : IntKind.i64.wrap (p + (k : Int)) = p + (k : Int) := by simp [IntKind.wrap, IntKind.bits]; omega
    have hnz : ¬ (n : Int) = 0 := by omega
    have hln := len_any HQ.out.t.p.pl
    rw [HLN.out] at hln
    have HLE := Lib.hid hln
    clear hln
    obtain ⟨st, hst⟩ : ∃ st, st = step (n : Int) p k := ⟨_, rfl⟩
    have htm : (p + (k : Int)).tmod (n : Int) = st := by rw [hst, Int.tmod_eq_emod_of_nonneg (by omega)]; rfl
    have hsb := step_bd (n : Int) p k (by omega)
    rw [← hst] at hsb
    have HST := Lib.hid hst
    by_cases hkN : k < N
    · have hne : k = 0 ∨ (st != z) = true := by
        rcases Nat.eq_zero_or_pos k with h | h
        · exact .inl h
        · right
          obtain ⟨j, rfl⟩ : ∃ j, k = j + 1 := ⟨k - 1, by omega⟩
          have h2 := HSE.out j (by omega)
          rw [← HST.out] at h2
          have : ¬ st = z := fun e => by have := h2.1 e; omega
          simpa using this
      have HKEY : Hid (keyOf Try.prog 3 (.int .i64 st) = some (.int .i64 st)) := keyOf_int_mk Try.underlying3 (WalkArith.wf_i64 (by omega))
      have hmp := HQ.out.mp
      clear hst hsb
      rcases hne with h0 | h0
      · subst h0
        have htm0 : (p + ((0 : Nat) : Int)).tmod (n : Int) = st := htm
        have htm00 : p.tmod (n : Int) = st := by rw [← htm]; congr 1; simp
        go_wp2_with (first
          | (go_at_call 37; (with_reducible refine HLE.out.mono ?_); rintro e w9 ⟨rfl, rfl⟩)
          | (at_mapUpdate; refine wpList_mapUpdate_own _ rfl _ _ _ 77 rfl 3 4 (int_keyed Try.underlying3) Try.underlying77 _ w8.heap.size 0 _ rfl hmp (by unfold maxLen; omega) _ _ _ rfl rfl HKEY.out _ [] (plainElem_bool Try.underlying4 true) ?_; intro w10 hown10 hgrow10))
        have e : seenS (n : Int) p (0 + 1) = (seenS (n : Int) p 0).put (.int .i64 st) (.lit (.bool true)) := by rw [HST.out]; rfl
        exact ⟨⟨1, rfl, by omega, HQ.out.put hgrow10 (by rw [e]; exact hown10)⟩, by simp [intOf]; omega⟩
      · by_cases hk0 : k = 0
        · subst hk0
          have htm00 : p.tmod (n : Int) = st := by rw [← htm]; congr 1; simp
          go_wp2_with (first
            | (go_at_call 37; (with_reducible refine HLE.out.mono ?_); rintro e w9 ⟨rfl, rfl⟩)
            | (at_mapUpdate; refine wpList_mapUpdate_own _ rfl _ _ _ 77 rfl 3 4 (int_keyed Try.underlying3) Try.underlying77 _ w8.heap.size 0 _ rfl hmp (by unfold maxLen; omega) _ _ _ rfl rfl HKEY.out _ [] (plainElem_bool Try.underlying4 true) ?_; intro w10 hown10 hgrow10))
          have e : seenS (n : Int) p (0 + 1) = (seenS (n : Int) p 0).put (.int .i64 st) (.lit (.bool true)) := by rw [HST.out]; rfl
          exact ⟨⟨1, rfl, by omega, HQ.out.put hgrow10 (by rw [e]; exact hown10)⟩, by simp [intOf]; omega⟩
        · have hk0b : ((k : Int) == 0) = false := by simp; omega
          go_wp2_with (first
            | (go_at_call 37; (with_reducible refine HLE.out.mono ?_); rintro e w9 ⟨rfl, rfl⟩)
            | (at_mapUpdate; refine wpList_mapUpdate_own _ rfl _ _ _ 77 rfl 3 4 (int_keyed Try.underlying3) Try.underlying77 _ w8.heap.size k _ rfl hmp (by unfold maxLen; omega) _ _ _ rfl rfl HKEY.out _ [] (plainElem_bool Try.underlying4 true) ?_; intro w10 hown10 hgrow10))
          have e : seenS (n : Int) p (k + 1) = (seenS (n : Int) p k).put (.int .i64 st) (.lit (.bool true)) := by rw [HST.out]; rfl
          exact ⟨⟨k + 1, by go_num, by omega, HQ.out.put hgrow10 (by rw [e]; exact hown10)⟩, by simp [intOf]; omega⟩
    · obtain rfl : N = k := by omega
      have hk0b : ((N : Int) == 0) = false := by simp; omega
      have hze : st = z := by
        have h2 := HSE.out (N - 1) (by omega)
        rw [show N - 1 + 1 = N by omega, ← HST.out] at h2
        exact h2.2 rfl
      have hzb : (st != z) = false := by simpa using hze
      clear hst hsb hze
      go_wp2_with (first
        | (go_at_call 37; (with_reducible refine HLE.out.mono ?_); rintro e w9 ⟨rfl, rfl⟩))
      clear htm hnz hpk hk0b hzb HST
      go_loopw [112] (fun q wx => ∃ k : Nat, q = .int .i64 k ∧ k ≤ n ∧ KsQ w b g b2 g2 b3 g3 r c 0 0 L M2 M3 w8.heap.size n p N wx) (fun q _ => n - (intOf q).toNat)
      case atStart => exact ⟨0, rfl, Nat.zero_le _, HQ.out⟩
      case round =>
        obtain ⟨k, rfl, hk, hq⟩ := hrel
        have HK := Lib.hid hq
        clear hq HQ HLE
        by_cases hk1 : k < n
        · have hki : (k : Int) < (n : Int) := by omega
          obtain ⟨op, hop⟩ : ∃ op, op = opnL L (k : Int) := ⟨_, rfl⟩
          obtain ⟨iv, hiv⟩ : ∃ iv, iv = decide ((k : Int) ∈ first (n : Int) p N) := ⟨_, rfl⟩
          have HOPN := Lib.hid (open_any HK.out.t.p.pl (k : Int) HBO.out)
          rw [← hop] at HOPN
          obtain ⟨⟨pb, pg, ps, pl, pc⟩, hxp⟩ : ∃ x, x = atL L (k : Int) := ⟨_, rfl⟩
          obtain ⟨⟨qb, qg, qs, ql, qc⟩, hxq⟩ : ∃ x, x = atL M2 (k : Int) := ⟨_, rfl⟩
          obtain ⟨⟨rb, rg, rs, rl, rc⟩, hxr⟩ : ∃ x, x = atL M3 (k : Int) := ⟨_, rfl⟩
          have hce := HCE.out (k : Int)
          have hc1 := HCT1.out (k : Int)
          have hc2 := HCT2.out (k : Int) (by omega)
          rw [← hxq, ← hxp, ← hop] at hce
          rw [← hxr, ← hxp] at hc1 hc2
          simp only at hc1
          have HXP := Lib.hid hxp
          have HXQ := Lib.hid hxq
          have HXR := Lib.hid hxr
          have HIV := Lib.hid hiv
          have HC1 := Lib.hid hc1
          have HC2 := Lib.hid hc2
          have hke : keyOf Try.prog 3 (.int .i64 (k : Int)) = some (.int .i64 (k : Int)) := keyOf_int_mk Try.underlying3 (WalkArith.wf_i64 (by omega))
          have HKE := Lib.hid hke
          have hif : ((k : Int) ∈ first (n : Int) p N) = (iv = true) := by rw [hiv]; simp
          simp only [hif] at hce
          clear hc1 hc2 hxp hxq hxr hiv hop hke hif
          have hneq : ∀ (w : World) (xb : Int) (xg xs : Bool) (xl xc : Int), (binOp .neq 45 (.agg #[.int .u8 xb, .bool xg, .bool xs, .int .u8 xl, .int .u8 xc]) (.agg #[.int .u8 xb, .bool xg, .bool xs, .int .u8 xl, .int .u8 xc])).run Try.prog w = .ok (.bool false) w := fun w xb xg xs xl xc => by
            have := run_neq_cl w ⟨xb, xg, xs, xl, xc⟩ ⟨xb, xg, xs, xl, xc⟩
            rw [decide_eq_true rfl] at this
            exact this
          have HCEQ := Lib.hid hce
          have HLK := Lib.hid (fun (X : World) (hX : KsQ w b g b2 g2 b3 g3 r c 0 0 L M2 M3 w8.heap.size n p N X) => hX.look (k : Int) HKE.out HIV.out)
          clear hce
          go_upto_region 21 with (go_at_call 29; (with_reducible refine HOPN.out.mono ?_); rintro e w9 ⟨rfl, hb9⟩; have HK9 := Lib.hid (HK.out.below hb9); clear hb9)
          have lk9 := HLK.out _ HK9.out
          go_cut [149] (fun v wy => v = .bool false ∧ KsQ w b g b2 g2 b3 g3 r c 0 0 L M2 M3 w8.heap.size n p N wy)
          case first =>
            have hceq := HCEQ.out
            cases iv <;> cases op
            all_goals
              simp only [Bool.false_eq_true, reduceIte, and_true, and_false, and_self, true_and, false_and] at hceq
              try unfold c0 at hceq
              injection hceq with x1 x2 x3 x4 x5
              subst x1 x2 x3 x4 x5
              clear HCEQ
              go_wp2_with (first
                | (go_at_call 40; (with_reducible refine (at_is HK9.out.t.q.pl HXQ.out).mono ?_); rintro e w10 ⟨rfl, hb10⟩; simp only [Cl.val]; have HK10 := Lib.hid (HK9.out.below hb10); have lk10 := HLK.out _ HK10.out; clear hb10 lk9)
                | (go_at_call 40; (with_reducible refine (at_is HK10.out.t.p.pl HXP.out).mono ?_); rintro e w11 ⟨rfl, hb11⟩; simp only [Cl.val]; have HK11 := Lib.hid (HK10.out.below hb11); clear hb11))
              go_meet
              first
                | exact ⟨rfl, HK11.out⟩
                | exact ⟨rfl, HK10.out⟩
          case rest =>
            obtain ⟨rfl, hcut⟩ := hcut
            have HKc := Lib.hid hcut
            clear hcut lk9 HLK HK9 HOPN HCEQ HXQ HIV
            have hwn : IntKind.i64.wrap ((n : Int) - 1) = (n : Int) - 1 := by simp [IntKind.wrap, IntKind.bits]; omega
            have hfs := fun (w : World) => cell_start pb pg ps pl pc w
            by_cases hkp : (k : Int) = p
            · have hb1 : ((k : Int) != p) = false := by simpa using hkp
              have hb2 : ¬ (k : Int) < p := by omega
              go_wp2_with (first
                 | (go_at_call 40; (with_reducible refine (at_is HKc.out.t.p.pl HXP.out).mono ?_); rintro e wn ⟨rfl, hbn⟩; simp only [Cl.val]; have HKc := Lib.hid (HKc.out.below hbn); clear hbn)
                 | (go_at_call 40; (with_reducible refine (at_is HKc.out.t.r.pl HXR.out).mono ?_); rintro e wn ⟨rfl, hbn⟩; simp only [Cl.val]; have HKc := Lib.hid (HKc.out.below hbn); clear hbn)
                 | (go_at_call 37; (with_reducible refine (len_any HKc.out.t.p.pl).mono ?_); rintro e wn ⟨rfl, rfl⟩; rw [HLN.out]))
              exact ⟨⟨k + 1, by go_num, by omega, HKc.out⟩, by simp [intOf]; omega⟩
            · have hb1 : ((k : Int) != p) = true := by simpa using hkp
              by_cases hin : (k : Int) < p ∧ p < (n : Int) - 1
              · obtain ⟨hi1, hi2⟩ := hin
                have hq := HC2.out hi1 hi2
                injection hq with x1 x2 x3 x4 x5
                subst x1 x2 x3 x4 x5
                clear HC1 HC2
                cases rs
                all_goals
                  go_wp2_with (first
                     | (go_at_call 40; (with_reducible refine (at_is HKc.out.t.p.pl HXP.out).mono ?_); rintro e wn ⟨rfl, hbn⟩; simp only [Cl.val]; have HKc := Lib.hid (HKc.out.below hbn); clear hbn)
                     | (go_at_call 40; (with_reducible refine (at_is HKc.out.t.r.pl HXR.out).mono ?_); rintro e wn ⟨rfl, hbn⟩; simp only [Cl.val]; have HKc := Lib.hid (HKc.out.below hbn); clear hbn)
                     | (go_at_call 37; (with_reducible refine (len_any HKc.out.t.p.pl).mono ?_); rintro e wn ⟨rfl, rfl⟩; rw [HLN.out]))
                  exact ⟨⟨k + 1, by go_num, by omega, HKc.out⟩, by simp [intOf]; omega⟩
              · by_cases hi1 : (k : Int) < p
                · have hi2 : ¬ p < (n : Int) - 1 := fun h => hin ⟨hi1, h⟩
                  clear hin HC2
                  cases ps
                  · go_wp2_with (first
                       | (go_at_call 40; (with_reducible refine (at_is HKc.out.t.p.pl HXP.out).mono ?_); rintro e wn ⟨rfl, hbn⟩; simp only [Cl.val]; have HKc := Lib.hid (HKc.out.below hbn); clear hbn)
                       | (go_at_call 40; (with_reducible refine (at_is HKc.out.t.r.pl HXR.out).mono ?_); rintro e wn ⟨rfl, hbn⟩; simp only [Cl.val]; have HKc := Lib.hid (HKc.out.below hbn); clear hbn)
                       | (go_at_call 37; (with_reducible refine (len_any HKc.out.t.p.pl).mono ?_); rintro e wn ⟨rfl, rfl⟩; rw [HLN.out]))
                    exact ⟨⟨k + 1, by go_num, by omega, HKc.out⟩, by simp [intOf]; omega⟩
                  · have hq := HC1.out hkp rfl
                    injection hq with x1 x2 x3 x4 x5
                    subst x1 x2 x3 x4 x5
                    clear HC1
                    go_wp2_with (first
                       | (go_at_call 40; (with_reducible refine (at_is HKc.out.t.p.pl HXP.out).mono ?_); rintro e wn ⟨rfl, hbn⟩; simp only [Cl.val]; have HKc := Lib.hid (HKc.out.below hbn); clear hbn)
                       | (go_at_call 40; (with_reducible refine (at_is HKc.out.t.r.pl HXR.out).mono ?_); rintro e wn ⟨rfl, hbn⟩; simp only [Cl.val]; have HKc := Lib.hid (HKc.out.below hbn); clear hbn)
                       | (go_at_call 37; (with_reducible refine (len_any HKc.out.t.p.pl).mono ?_); rintro e wn ⟨rfl, rfl⟩; rw [HLN.out]))
                    exact ⟨⟨k + 1, by go_num, by omega, HKc.out⟩, by simp [intOf]; omega⟩
                · clear hin HC2
                  cases ps
                  · go_wp2_with (first
                       | (go_at_call 40; (with_reducible refine (at_is HKc.out.t.p.pl HXP.out).mono ?_); rintro e wn ⟨rfl, hbn⟩; simp only [Cl.val]; have HKc := Lib.hid (HKc.out.below hbn); clear hbn)
                       | (go_at_call 40; (with_reducible refine (at_is HKc.out.t.r.pl HXR.out).mono ?_); rintro e wn ⟨rfl, hbn⟩; simp only [Cl.val]; have HKc := Lib.hid (HKc.out.below hbn); clear hbn)
                       | (go_at_call 37; (with_reducible refine (len_any HKc.out.t.p.pl).mono ?_); rintro e wn ⟨rfl, rfl⟩; rw [HLN.out]))
                    exact ⟨⟨k + 1, by go_num, by omega, HKc.out⟩, by simp [intOf]; omega⟩
                  · have hq := HC1.out hkp rfl
                    injection hq with x1 x2 x3 x4 x5
                    subst x1 x2 x3 x4 x5
                    clear HC1
                    go_wp2_with (first
                       | (go_at_call 40; (with_reducible refine (at_is HKc.out.t.p.pl HXP.out).mono ?_); rintro e wn ⟨rfl, hbn⟩; simp only [Cl.val]; have HKc := Lib.hid (HKc.out.below hbn); clear hbn)
                       | (go_at_call 40; (with_reducible refine (at_is HKc.out.t.r.pl HXR.out).mono ?_); rintro e wn ⟨rfl, hbn⟩; simp only [Cl.val]; have HKc := Lib.hid (HKc.out.below hbn); clear hbn)
                       | (go_at_call 37; (with_reducible refine (len_any HKc.out.t.p.pl).mono ?_); rintro e wn ⟨rfl, rfl⟩; rw [HLN.out]))
                    exact ⟨⟨k + 1, by go_num, by omega, HKc.out⟩, by simp [intOf]; omega⟩
        · obtain rfl : n = k := by omega
          have hki : ¬ (n : Int) < (n : Int) := by omega
          clear HCE HCT1 HCT2 HSE
          have n1 := HK.out.t.p.pl.lt
          have n2 := HK.out.t.p.pl.ltg
          go_wp2_with fail
          have hx1 := HK.out.below (below_alloc wr (.cells #[.int .u8 60, .int .i64 z, .int .u8 y, .bool false, .slice none 0 0, .slice none 0 0] 73))
          have hpa := paint_any (os := [⟨60, z, y, false, [], []⟩]) (row1o (fun k => k ≠ b ∧ k ≠ g) wr 60 z y false [] (.slice none 0 0) (RowIn.nil _ _ _) (by omega)) (fun o ho => by
            rw [List.mem_singleton.1 ho]
            exact or_ok (by unfold Byte; omega) (by unfold I64o; omega) (by unfold Byte; omega) (fun n h => by cases h) (Nat.zero_le _)) (by simp) hx1.t.p.pl HBO.out p
          rw [HPR.out] at hpa
          unfold PQ at hpa
          simp only at hpa
          (with_reducible refine hpa.mono ?_)
          rintro e w12 ⟨rfl, hp12, _, ht12⟩
          have HX12 := Lib.hid (hx1.turn hp12 ht12)
          have hm1 : M1.length = n := by
            have a1 := HX12.out.t.p.pl.size
            have a2 := HK.out.t.p.pl.size
            rw [HLN.out] at a2
            omega
          have HM1 := Lib.hid hm1
          clear hpa hx1 hp12 ht12 n1 n2 HK HPR hm1
          go_wp2_with (go_at_call 37; (with_reducible refine (len_any HX12.out.t.p.pl).mono ?_); rintro e w13 ⟨rfl, rfl⟩; rw [HM1.out])
          go_loopw [203] (fun q wy => ∃ k : Nat, q = .int .i64 k ∧ k ≤ n ∧ KsQ w b g b2 g2 b3 g3 r c 0 0 M1 M2 M3 w8.heap.size n p N wy) (fun q _ => n - (intOf q).toNat)
          case atStart => exact ⟨0, rfl, Nat.zero_le _, HX12.out⟩
          case round =>
            obtain ⟨k, rfl, hk, hq⟩ := hrel
            have HX := Lib.hid hq
            clear hq HX12 HBO HLN HM1 hki
            by_cases hk1 : k < n
            · have hki : (k : Int) < (n : Int) := by omega
              obtain ⟨iv, hiv⟩ : ∃ iv, iv = decide ((k : Int) ∈ first (n : Int) p N) := ⟨_, rfl⟩
              have hlk := HX.out.look (k : Int) (keyOf_int_mk Try.underlying3 (WalkArith.wf_i64 (by omega))) hiv
              have hneq : ∀ (w : World), (binOp .neq 45 (.agg #[.int .u8 y, .bool false, .bool false, .int .u8 0, .int .u8 0]) (.agg #[.int .u8 y, .bool false, .bool false, .int .u8 0, .int .u8 0])).run Try.prog w = .ok (.bool false) w := fun w => by
                have := run_neq_cl w ⟨y, false, false, 0, 0⟩ ⟨y, false, false, 0, 0⟩
                rw [decide_eq_true rfl] at this
                exact this
              cases iv
              · clear hiv
                go_wp2_with fail
                exact ⟨⟨k + 1, by go_num, by omega, HX.out⟩, by simp [intOf]; omega⟩
              · have HCL := Lib.hid (HCR.out _ (of_decide_eq_true hiv.symm))
                clear hiv
                go_wp2_with (go_at_call 40; (with_reducible refine (at_is HX.out.t.p.pl HCL.out.symm).mono ?_); rintro e wn ⟨rfl, hbn⟩; simp only [Cl.val]; have HKc := Lib.hid (HX.out.below hbn); clear hbn hlk)
                exact ⟨⟨k + 1, by go_num, by omega, HKc.out⟩, by simp [intOf]; omega⟩
            · obtain rfl : n = k := by omega
              have hki : ¬ (n : Int) < (n : Int) := by omega
              have heq1 : (z == z) = true := by simp
              go_wp2_with fail
              go_ret
              exact ⟨rfl, HX.out.t.old⟩
end Go.Proofs.Ytglkjcdbffkbcaa.Pl
