/-
  All of package wipe, the example of its laws, and planes one beside another.
-/
import Derived.Test.YtgjhboikfbafcaaWpR
import Derived.Test.YtgjhboikfbafcaaWpO
namespace Go.Proofs.Ytgjhboikfbafcaa.Pl
open Go.RowKit Go.Shelf Base
set_option linter.unusedVariables false
set_option linter.unusedSimpArgs false

set_option maxHeartbeats 800000 in
theorem wall_any {w : World} {b g : Nat} {r c cur : Int} {L : List Cl} (h : PlAt w b g r c cur L) : Calls Try.prog 72 #[.pointer (some ⟨b, 0, none⟩)] w fun e W => (∃ v, e = .returned v) ∧ PlAt W b g r c 0 (List.replicate L.length c0) ∧ Turn (Or2 (At b) (At g)) w W := by
  have HC := Lib.hid (clear_any h)
  clear h
  go_enter Try.func72, Try.ntmps72
  go_wp2_with (go_at_call 106; (with_reducible refine HC.out.mono ?_); rintro e w1 ⟨⟨v, rfl⟩, hp, ht⟩; have HP := Lib.hid hp; have HT := Lib.hid ht; clear hp ht)
  refine bodyPost_end (results_none rfl _ _ _) rfl ⟨⟨_, rfl⟩, HP.out, HT.out⟩
theorem bo_wp {L : List Cl} (h : ∀ x ∈ L, 0 ≤ x.b ∧ x.b ≤ 255) : BoL L := by
  intro i
  unfold atL
  split
  · cases hx : L[i.toNat]? with
    | none => exact ⟨by decide, by decide⟩
    | some x => exact h x (List.mem_of_getElem? hx)
  · exact ⟨by decide, by decide⟩
def wx (b : Int) (s : Bool) : Cl := ⟨b, false, s, 0, 0⟩
def wxL : List Cl := [wx 0 true, wx 193 false, wx 194 false, wx 32 true, wx 195 false]
def wy0 : List Cl := List.replicate 5 c0
/-- The plane behind k of the cells. -/
def wyK : Nat → List Cl
  | 0 => wy0
  | k + 1 => setL (wyK k) k ((wxL[k]?).getD c0)
def wy6 : List Cl := [wx 1 true, wx 193 false, c0, wx 32 true, wx 195 false]
def wy7 : List Cl := [wx 0 true, c0, c0, wx 32 true, wx 195 false]
def wy8 : List Cl := [wx 0 true, c0, c0, wx 32 true, c0]
theorem wyK5 : wyK 5 = wxL := by kernel_rfl
theorem wx_bo {L : List Cl} (h : L.all (fun x => decide (0 ≤ x.b ∧ x.b ≤ 255)) = true) : BoL L := bo_wp (fun x hx => by simpa using List.all_eq_true.1 h x hx)
theorem w_rest1 : restN wxL 2 = 1 ∧ opnL wxL 2 = true ∧ restL wxL 2 = wy6 := by decide +kernel
theorem w_rest2 : restN wy6 4 = 0 ∧ opnL wy6 4 = false ∧ restL wy6 4 = wy6 := by decide +kernel
theorem w_open : openN wy6 = 2 ∧ openL wy6 = wy7 ∧ curO wy6 0 = 1 := by decide +kernel
theorem w_in : insP wy7.length ⟨3, 1, 0⟩ = [4] ∧ fillL wy7 [4] c0 = wy8 := by decide +kernel
theorem w_at : wx 1 true = atL wy6 0 ∧ c0 = atL wy8 4 ∧ List.replicate wy8.length c0 = wy0 ∧ (befL wy0 0 != -1) = false := by decide +kernel
/-- What the example holds. -/
structure WsQ (w : World) (b g : Nat) (cur : Int) (L : List Cl) (W : World) : Prop where
  p : PlAt W b g 1 5 cur L
  old : Below w.heap.size w W
  lb : w.heap.size ≤ b
  lg : w.heap.size ≤ g
section
variable {w W W' : World} {b g : Nat} {cur : Int} {L : List Cl}
theorem WsQ.below (h : WsQ w b g cur L W) (t : Below W.heap.size W W') : WsQ w b g cur L W' := ⟨h.p.below t, h.old.trans (t.mono h.old.size), h.lb, h.lg⟩
theorem WsQ.turn (h : WsQ w b g cur L W) {cur' : Int} {L' : List Cl} (hp : PlAt W' b g 1 5 cur' L') (t : Turn (Or2 (At b) (At g)) W W') : WsQ w b g cur' L' W' :=
  ⟨hp, h.old.trans (t.below h.old.size (fun k hk => by have h1 := h.lb; have h2 := h.lg; rcases hk with hk | hk <;> unfold At at hk <;> omega)), h.lb, h.lg⟩
theorem WsQ.turn1 (h : WsQ w b g cur L W) {cur' : Int} {L' : List Cl} (hp : PlAt W' b g 1 5 cur' L') (t : Turn (At g) W W') : WsQ w b g cur' L' W' := h.turn hp (t.mono fun k hk => .inr hk)
end
def wlit : Array Value := #[.int .u8 0, .bool false, .bool true, .int .u8 0, .int .u8 0, .int .u8 193, .bool false, .bool false, .int .u8 0, .int .u8 0, .int .u8 194, .bool false, .bool false, .int .u8 0, .int .u8 0, .int .u8 32, .bool false, .bool true, .int .u8 0, .int .u8 0, .int .u8 195, .bool false, .bool false, .int .u8 0, .int .u8 0]
theorem w_five {W : World} {s k : Nat} (h : W.heap[s]? = some (.cells wlit 45 (0, 0))) (hk : k < 5) : C5 W s (k * 5) ((wxL[k]?).getD c0) := by
  have : k = 0 ∨ k = 1 ∨ k = 2 ∨ k = 3 ∨ k = 4 := by omega
  unfold wlit at h
  rcases this with rfl | rfl | rfl | rfl | rfl <;> exact ⟨by simp [World.cell?, h, wxL, wx], by simp [World.cell?, h, wxL, wx], by simp [World.cell?, h, wxL, wx], by simp [World.cell?, h, wxL, wx], by simp [World.cell?, h, wxL, wx]⟩
theorem wx_cells : cells 1 5 = ((5 : Nat) : Int) := by decide
set_option maxRecDepth 100000 in
set_option maxHeartbeats 8000000 in
theorem wp_alive (w : World) : Calls Try.prog 34 #[] w fun e W => e = .returned (.bool true) ∧ Below w.heap.size w W := by
  have e2 : ∀ w : World, (binOp .eql 45 (.agg #[.int .u8 0, .bool false, .bool false, .int .u8 0, .int .u8 0]) (.agg #[.int .u8 0, .bool false, .bool false, .int .u8 0, .int .u8 0])).run Try.prog w = .ok (.bool true) w := fun w => by kernel_rfl
  have hfl := cell_byte 1 false true 0 0
  have HN := Lib.hid (new_yes 1 5 5 w wx_cells (by omega) (by omega))
  go_enter Try.func34, Try.ntmps34
  go_wp2_with (go_at_call 44; (with_reducible refine HN.out.mono ?_); rintro e w1 ⟨b, g, rfl, hp, hb, l1, l2⟩; have H1 := Lib.hid (show WsQ w b g 0 wy0 w1 from ⟨hp, hb, l1, l2⟩); clear hp hb l1 l2)
  have n2 := H1.out.p.ltg
  have HL0 := Lib.hid (show (w1.alloc (.cells wlit 45)).heap[w1.heap.size]? = some (.cells wlit 45 (0, 0)) from heap_alloc_new w1 _)
  have H2 := Lib.hid (H1.out.below (below_alloc w1 (.cells wlit 45)))
  unfold wlit at HL0 H2
  obtain ⟨s, hs⟩ : ∃ s, s = w1.heap.size := ⟨_, rfl⟩
  rw [← hs] at HL0 n2 ⊢
  obtain ⟨W2, hW2⟩ : ∃ W2, W2 = w1.alloc (.cells #[.int .u8 0, .bool false, .bool true, .int .u8 0, .int .u8 0, .int .u8 193, .bool false, .bool false, .int .u8 0, .int .u8 0, .int .u8 194, .bool false, .bool false, .int .u8 0, .int .u8 0, .int .u8 32, .bool false, .bool true, .int .u8 0, .int .u8 0, .int .u8 195, .bool false, .bool false, .int .u8 0, .int .u8 0] 45) := ⟨_, rfl⟩
  rw [← hW2] at HL0 H2 ⊢
  clear hs hW2 H1 HN
  go_loopw [28] (fun p wr => ∃ k : Nat, p = .int .i64 k ∧ k ≤ 5 ∧ WsQ w b g 0 (wyK k) wr ∧ wr.heap[s]? = some (.cells wlit 45 (0, 0))) (fun p _ => 5 - (intOf p).toNat)
  case atStart => exact ⟨0, rfl, by omega, H2.out, HL0.out⟩
  case round =>
    obtain ⟨k, rfl, hk, hq, hl⟩ := hrel
    have HQ := Lib.hid hq
    have HL := Lib.hid hl
    clear H2 HL0 hq
    by_cases hk1 : k < 5
    · have hki : (k : Int) < 5 := by omega
      obtain ⟨q0, q1, q2, q3, q4⟩ := w_five hl hk1
      obtain ⟨⟨xb, xg, xs, xl, xc⟩, hx⟩ : ∃ x, x = (wxL[k]?).getD c0 := ⟨_, rfl⟩
      rw [← hx] at q0 q1 q2 q3 q4
      simp only at q0 q1 q2 q3 q4
      have HX := Lib.hid hx
      have hsl := lt_of_block hl
      have hba := below_alloc wr (.cells #[.int .u8 xb, .bool xg, .bool xs, .int .u8 xl, .int .u8 xc] 45)
      have HQ2 := Lib.hid (HQ.out.below hba)
      have HL2 := Lib.hid ((hba.block s hsl).trans HL.out)
      clear hl hx hba
      go_wp2_with (go_at_call 45; (with_reducible refine (set_any HQ2.out.p k ⟨xb, xg, xs, xl, xc⟩).mono ?_); rintro e w3 ⟨rfl, hp, ht⟩; have H3 := Lib.hid (HQ2.out.turn1 hp ht); have HL3 := Lib.hid ((ht.block s (lt_of_block HL2.out) (show ¬ s = g by omega)).trans HL2.out); clear hp ht)
      exact ⟨⟨k + 1, by go_num, by omega, by rw [show wyK (k + 1) = setL (wyK k) k ⟨xb, xg, xs, xl, xc⟩ from by rw [HX.out]; rfl]; exact H3.out, HL3.out⟩, by simp [intOf]; omega⟩
    · obtain rfl : k = 5 := by omega
      have h5 := HQ.out
      rw [wyK5] at h5
      have H5 := Lib.hid h5
      have hb0 : BoL wxL := wx_bo (by decide)
      have hb6 : BoL wy6 := wx_bo (by decide)
      have hr1 := rest_any h5.p 2 hb0
      rw [w_rest1.1, w_rest1.2.1, w_rest1.2.2] at hr1
      have HR1 := Lib.hid hr1
      have HB6 := Lib.hid hb6
      have hb7 : BoL wy7 := wx_bo (by decide)
      clear h5 hl HQ hr1 hb6
      go_wp2_with (first
        | (go_at_call 37; (with_reducible refine HR1.out.mono ?_); rintro e w6 ⟨rfl, hp, ht⟩; have H6 := Lib.hid (H5.out.turn1 hp ht); clear hp ht
           have hr2 := rest_any H6.out.p 4 HB6.out
           rw [w_rest2.1, w_rest2.2.1, w_rest2.2.2] at hr2
           have HR2 := Lib.hid hr2
           clear hr2)
        | (go_at_call 37; (with_reducible refine HR2.out.mono ?_); rintro e w7 ⟨rfl, hp, ht⟩; have H7 := Lib.hid (H6.out.turn1 hp ht); clear hp ht)
        | (go_at_call 40; (with_reducible refine (at_is H7.out.p w_at.1).mono ?_); rintro e w8 ⟨rfl, hb⟩; simp only [Cl.val, wx]; have H8 := Lib.hid (H7.out.below hb); clear hb
           have hr3 := wopen_any H8.out.p HB6.out
           rw [w_open.1, w_open.2.1, w_open.2.2] at hr3
           have HR3 := Lib.hid hr3
           clear hr3)
        | (go_at_call 38; (with_reducible refine HR3.out.mono ?_); rintro e w9 ⟨rfl, hp, ht⟩; have H9 := Lib.hid (H8.out.turn hp ht); clear hp ht
           have hr4 := winside_any H9.out.p ⟨3, 1, 0⟩ (by decide)
           rw [w_in.1, w_in.2] at hr4
           have HR4 := Lib.hid hr4
           clear hr4)
        | (go_at_call 43; (with_reducible refine HR4.out.mono ?_); rintro e wa ⟨rfl, hp, ht⟩; have HA := Lib.hid (H9.out.turn1 hp ht); clear hp ht)
        | (go_at_call 40; (with_reducible refine (at_is HA.out.p w_at.2.1).mono ?_); rintro e wb ⟨rfl, hb⟩; simp only [Cl.val, c0]; have HB := Lib.hid (HA.out.below hb); clear hb)
        | (go_at_call 68; (with_reducible refine (cursor_any HD.out.p).mono ?_); rintro e we ⟨rfl, rfl⟩)
        | (go_at_call 68; (with_reducible refine (cursor_any HB.out.p).mono ?_); rintro e wc ⟨rfl, rfl⟩)
        | (go_at_call 72; (with_reducible refine (wall_any HB.out.p).mono ?_); rw [w_at.2.2.1]; rintro e wc ⟨⟨v, rfl⟩, hp, ht⟩; have HC := Lib.hid (HB.out.turn hp ht); clear hp ht
           have hr5 := formatted_any HC.out.p
           rw [w_at.2.2.2] at hr5
           have HR5 := Lib.hid hr5
           clear hr5)
        | (go_at_call 11; (with_reducible refine HR5.out.mono ?_); rintro e wd ⟨rfl, hb⟩; have HD := Lib.hid (HC.out.below hb); clear hb))
      go_ret
      exact ⟨rfl, HD.out.old⟩
/-- A plane that stands above the call's heap. -/
structure Wz (w : World) (b g : Nat) (r c cur : Int) (L : List Cl) (W : World) : Prop where
  pl : PlAt W b g r c cur L
  lb : w.heap.size ≤ b
  lg : w.heap.size ≤ g
def Far (b g b' g' : Nat) : Prop := b ≠ b' ∧ b ≠ g' ∧ g ≠ b' ∧ g ≠ g'
theorem Far.symm {b g b' g' : Nat} (h : Far b g b' g') : Far b' g' b g := ⟨h.1.symm, h.2.2.1.symm, h.2.1.symm, h.2.2.2.symm⟩
section
variable {w W W' : World} {b g b' g' : Nat} {r c cur cur' : Int} {L L' : List Cl}
theorem Wz.below (h : Wz w b g r c cur L W) (t : Below W.heap.size W W') : Wz w b g r c cur L W' := ⟨h.pl.below t, h.lb, h.lg⟩
theorem Wz.drew (h : Wz w b g r c cur L W) : Wz w b g r c cur L W.drew := ⟨h.pl.drew, h.lb, h.lg⟩
theorem Wz.beside (h : Wz w b g r c cur L W) (t : Turn (Or2 (At b') (At g')) W W') (f : Far b g b' g') : Wz w b g r c cur L W' :=
  ⟨h.pl.turn t (by rintro (e | e); exact f.1 e; exact f.2.1 e) (by rintro (e | e); exact f.2.2.1 e; exact f.2.2.2 e), h.lb, h.lg⟩
theorem wz_old (h : Below w.heap.size w W) (t : Turn (Or2 (At b) (At g)) W W') (lb : w.heap.size ≤ b) (lg : w.heap.size ≤ g) : Below w.heap.size w W' :=
  h.trans (t.below h.size (fun k hk => by rcases hk with hk | hk <;> (unfold At at hk; omega)))
/-- A clone stands apart. -/
theorem Wz.apart (h : Wz w b g r c cur L W) (lb : W.heap.size ≤ b') (lg : W.heap.size ≤ g') : Far b g b' g' := by
  have e1 := h.pl.lt
  have e2 := h.pl.ltg
  exact ⟨by omega, by omega, by omega, by omega⟩
theorem Wz.new (ho : Below w.heap.size w W) (hp : PlAt W' b g r c cur L) (lb : W.heap.size ≤ b) (lg : W.heap.size ≤ g) : Wz w b g r c cur L W' := by
  have := ho.size
  exact ⟨hp, by omega, by omega⟩
end
/-- Three planes, one beside another. -/
structure Wz3 (w : World) (r c : Int) (b g b2 g2 b3 g3 : Nat) (c1 c2 c3 : Int) (L1 L2 L3 : List Cl) (W : World) : Prop where
  p : Wz w b g r c c1 L1 W
  q : Wz w b2 g2 r c c2 L2 W
  r : Wz w b3 g3 r c c3 L3 W
  old : Below w.heap.size w W
  n12 : Far b g b2 g2
  n13 : Far b g b3 g3
  n23 : Far b2 g2 b3 g3
/-- Four of them. -/
structure Wz4 (w : World) (r c : Int) (b g b2 g2 b3 g3 b4 g4 : Nat) (c1 c2 c3 c4 : Int) (L1 L2 L3 L4 : List Cl) (W : World) : Prop where
  t : Wz3 w r c b g b2 g2 b3 g3 c1 c2 c3 L1 L2 L3 W
  s : Wz w b4 g4 r c c4 L4 W
  n14 : Far b g b4 g4
  n24 : Far b2 g2 b4 g4
  n34 : Far b3 g3 b4 g4
section
variable {w W W' : World} {b g b2 g2 b3 g3 b4 g4 : Nat} {r c c1 c2 c3 c4 z : Int} {L1 L2 L3 L4 M : List Cl}
theorem Wz3.below (h : Wz3 w r c b g b2 g2 b3 g3 c1 c2 c3 L1 L2 L3 W) (t : Below W.heap.size W W') : Wz3 w r c b g b2 g2 b3 g3 c1 c2 c3 L1 L2 L3 W' :=
  ⟨h.p.below t, h.q.below t, h.r.below t, h.old.trans (t.mono h.old.size), h.n12, h.n13, h.n23⟩
theorem Wz3.drew (h : Wz3 w r c b g b2 g2 b3 g3 c1 c2 c3 L1 L2 L3 W) : Wz3 w r c b g b2 g2 b3 g3 c1 c2 c3 L1 L2 L3 W.drew :=
  ⟨h.p.drew, h.q.drew, h.r.drew, below_drew h.old, h.n12, h.n13, h.n23⟩
theorem Wz3.drewN (h : Wz3 w r c b g b2 g2 b3 g3 c1 c2 c3 L1 L2 L3 W) (m : Nat) : Wz3 w r c b g b2 g2 b3 g3 c1 c2 c3 L1 L2 L3 (W.drewN m) := h.below ⟨rfl, rfl, rfl, Nat.le_refl _, fun _ _ => rfl⟩
theorem Wz3.two (h : Wz3 w r c b g b2 g2 b3 g3 c1 c2 c3 L1 L2 L3 W) (hp : PlAt W' b2 g2 r c z M) (t : Turn (Or2 (At b2) (At g2)) W W') : Wz3 w r c b g b2 g2 b3 g3 c1 z c3 L1 M L3 W' :=
  ⟨h.p.beside t h.n12, ⟨hp, h.q.lb, h.q.lg⟩, h.r.beside t h.n23.symm, wz_old h.old t h.q.lb h.q.lg, h.n12, h.n13, h.n23⟩
theorem Wz3.three (h : Wz3 w r c b g b2 g2 b3 g3 c1 c2 c3 L1 L2 L3 W) (hp : PlAt W' b3 g3 r c z M) (t : Turn (Or2 (At b3) (At g3)) W W') : Wz3 w r c b g b2 g2 b3 g3 c1 c2 z L1 L2 M W' :=
  ⟨h.p.beside t h.n13, h.q.beside t h.n23, ⟨hp, h.r.lb, h.r.lg⟩, wz_old h.old t h.r.lb h.r.lg, h.n12, h.n13, h.n23⟩
/-- Two clones of a plane. -/
theorem Wz3.made (h : Wz w b g r c c1 L1 W) (ho : Below w.heap.size w W) {W1 W2 : World} (h2 : PlAt W1 b2 g2 r c c2 L2) (t1 : Below W.heap.size W W1) (lb2 : W.heap.size ≤ b2) (lg2 : W.heap.size ≤ g2) (h3 : PlAt W2 b3 g3 r c c3 L3) (t2 : Below W1.heap.size W1 W2) (lb3 : W1.heap.size ≤ b3) (lg3 : W1.heap.size ≤ g3) : Wz3 w r c b g b2 g2 b3 g3 c1 c2 c3 L1 L2 L3 W2 := by
  have hq := Wz.new ho h2 lb2 lg2
  have ho1 := ho.trans (t1.mono ho.size)
  exact ⟨(h.below t1).below t2, hq.below t2, Wz.new ho1 h3 lb3 lg3, ho1.trans (t2.mono ho1.size), h.apart lb2 lg2, (h.below t1).apart lb3 lg3, hq.apart lb3 lg3⟩
theorem Wz4.below (h : Wz4 w r c b g b2 g2 b3 g3 b4 g4 c1 c2 c3 c4 L1 L2 L3 L4 W) (t : Below W.heap.size W W') : Wz4 w r c b g b2 g2 b3 g3 b4 g4 c1 c2 c3 c4 L1 L2 L3 L4 W' :=
  ⟨h.t.below t, h.s.below t, h.n14, h.n24, h.n34⟩
theorem Wz4.three (h : Wz4 w r c b g b2 g2 b3 g3 b4 g4 c1 c2 c3 c4 L1 L2 L3 L4 W) (hp : PlAt W' b3 g3 r c z M) (t : Turn (Or2 (At b3) (At g3)) W W') : Wz4 w r c b g b2 g2 b3 g3 b4 g4 c1 c2 z c4 L1 L2 M L4 W' :=
  ⟨h.t.three hp t, h.s.beside t h.n34.symm, h.n14, h.n24, h.n34⟩
theorem Wz4.four (h : Wz4 w r c b g b2 g2 b3 g3 b4 g4 c1 c2 c3 c4 L1 L2 L3 L4 W) (hp : PlAt W' b4 g4 r c z M) (t : Turn (Or2 (At b4) (At g4)) W W') : Wz4 w r c b g b2 g2 b3 g3 b4 g4 c1 c2 c3 z L1 L2 L3 M W' :=
  ⟨⟨h.t.p.beside t h.n14, h.t.q.beside t h.n24, h.t.r.beside t h.n34, wz_old h.t.old t h.s.lb h.s.lg, h.t.n12, h.t.n13, h.t.n23⟩, ⟨hp, h.s.lb, h.s.lg⟩, h.n14, h.n24, h.n34⟩
/-- Two more clones. -/
theorem Wz4.made {b0 g0 : Nat} {c0 : Int} {L0 : List Cl} (h : Wz3 w r c b0 g0 b g b2 g2 c0 c1 c2 L0 L1 L2 W) {W1 W2 : World} (h3 : PlAt W1 b3 g3 r c c3 L3) (t1 : Below W.heap.size W W1) (lb3 : W.heap.size ≤ b3) (lg3 : W.heap.size ≤ g3) (h4 : PlAt W2 b4 g4 r c c4 L4) (t2 : Below W1.heap.size W1 W2) (lb4 : W1.heap.size ≤ b4) (lg4 : W1.heap.size ≤ g4) : Wz4 w r c b g b2 g2 b3 g3 b4 g4 c1 c2 c3 c4 L1 L2 L3 L4 W2 := by
  have hs := Wz.new h.old h3 lb3 lg3
  have h1 := h.below t1
  exact ⟨⟨h1.q.below t2, h1.r.below t2, hs.below t2, h1.old.trans (t2.mono h1.old.size), h.n23, h.q.apart lb3 lg3, h.r.apart lb3 lg3⟩, Wz.new h1.old h4 lb4 lg4, h1.q.apart lb4 lg4, h1.r.apart lb4 lg4, hs.apart lb4 lg4⟩
end
theorem bo_fill {M : List Cl} (h : BoL M) (ps : List Int) : BoL (fillL M ps c0) := by
  intro i
  rw [atL_fillw]
  split
  · exact ⟨by decide, by decide⟩
  · exact h i
theorem bo_open0 {L : List Cl} (h : BoL L) : BoL (open0 L) := by
  unfold open0; split
  · exact bo_fill h _
  · exact h
theorem curO_twice {L : List Cl} {u : Int} (h : u = curO L 0) : curO (openL L) u = u := by
  unfold curO at *
  rw [open_twice]
  by_cases hh : hasL (openL L) (homeL (openL L)) = true
  · rw [if_pos hh] at h ⊢; exact h.symm
  · rw [if_neg hh] at h ⊢
theorem sameZ_self (r c cur : Int) (L : List Cl) : sameP r c cur r c cur L L = true := by unfold sameP; simp
end Go.Proofs.Ytgjhboikfbafcaa.Pl
