/-
  The example of the statements about orders.
-/
import Derived.Test.YtglkjcdbffkbcaaPaH
namespace Go.Proofs.Ytglkjcdbffkbcaa.Pl
open Go.RowKit Go.Shelf Base
set_option linter.unusedVariables false
set_option linter.unusedSimpArgs false

def pe0 : List Cl := List.replicate 5 c0
def peS : Cl := ⟨32, false, true, 0, 0⟩
def peA : Cl := ⟨193, false, false, 0, 0⟩
def pe1 : List Cl := [c0, c0, c0, peS, peA]
def po1 : List Or := [⟨17, 3, 0, false, [], []⟩, ⟨29, 0, 32, false, [], []⟩, ⟨0, 0, 0, false, [], [193]⟩]
def po2 : List Or := [⟨19, 0, 0, false, [], []⟩, ⟨17, 5, 0, false, [], []⟩, ⟨0, 0, 0, false, [], [194]⟩]
theorem pa1 : paintB pe0 0 po1 0 = (⟨pe1, 0, 0, c0, true⟩, 3, 0) := by kernel_rfl
theorem pa2 : paintB pe1 0 po2 2 = (⟨pe1, 2, 2, c0, false⟩, 1, 32) := by kernel_rfl
theorem pa3 : paintB pe1 2 [] 5 = (⟨pe1, 2, 0, c0, false⟩, 0, 32) := by kernel_rfl
theorem bo_all {L : List Cl} (h : ∀ x ∈ L, 0 ≤ x.b ∧ x.b ≤ 255) : BoL L := by
  intro i
  unfold atL
  split
  · cases hx : L[i.toNat]? with
    | none => exact ⟨by decide, by decide⟩
    | some x => exact h x (List.mem_of_getElem? hx)
  · exact ⟨by decide, by decide⟩
theorem pe0_bo : BoL pe0 := bo_all (by unfold pe0; intro x hx; rw [List.eq_of_mem_replicate hx]; decide)
theorem pe1_bo : BoL pe1 := bo_all (by unfold pe1; intro x hx; simp only [List.mem_cons, List.not_mem_nil, or_false] at hx; rcases hx with rfl | rfl | rfl | rfl | rfl <;> decide)
theorem no_pairs (T : Nat → Prop) (w : World) : PrIn T w (.slice none 0 0) [] := ⟨none, 0, rfl, fun h => absurd rfl h⟩
theorem or_ok {k a y : Int} {d : List Int} (hk : Byte k) (ha : I64o a) (hy : Byte y) (hd : ∀ n ∈ d, Byte n) (hl : d.length ≤ maxLen) : OrOk ⟨k, a, y, false, [], d⟩ := ⟨hk, ha, hy, Nat.zero_le _, (fun p hp => by cases hp), hl, hd⟩
theorem po1_ok : ∀ o ∈ po1, OrOk o := by
  unfold po1; intro o ho
  simp only [List.mem_cons, List.not_mem_nil, or_false] at ho
  rcases ho with rfl | rfl | rfl
  · exact or_ok (by unfold Byte; omega) (by unfold I64o; omega) (by unfold Byte; omega) (fun n h => by cases h) (Nat.zero_le _)
  · exact or_ok (by unfold Byte; omega) (by unfold I64o; omega) (by unfold Byte; omega) (fun n h => by cases h) (Nat.zero_le _)
  · exact or_ok (by unfold Byte; omega) (by unfold I64o; omega) (by unfold Byte; omega) (fun n h => by rw [List.mem_singleton.1 h]; unfold Byte; omega) (by unfold maxLen; simp)
theorem po2_ok : ∀ o ∈ po2, OrOk o := by
  unfold po2; intro o ho
  simp only [List.mem_cons, List.not_mem_nil, or_false] at ho
  rcases ho with rfl | rfl | rfl
  · exact or_ok (by unfold Byte; omega) (by unfold I64o; omega) (by unfold Byte; omega) (fun n h => by cases h) (Nat.zero_le _)
  · exact or_ok (by unfold Byte; omega) (by unfold I64o; omega) (by unfold Byte; omega) (fun n h => by cases h) (Nat.zero_le _)
  · exact or_ok (by unfold Byte; omega) (by unfold I64o; omega) (by unfold Byte; omega) (fun n h => by rw [List.mem_singleton.1 h]; unfold Byte; omega) (by unfold maxLen; simp)
/-- Three orders, written out, the last of one byte. -/
theorem row3 (T : Nat → Prop) (W : World) (k0 a0 y0 k1 a1 y1 n : Int) (h0 : T W.heap.size) (h1 : T (W.heap.size + 1)) :
    OrdsIn T ((W.alloc (.cells #[.int .u8 n] 5)).alloc (.cells #[.int .u8 k0, .int .i64 a0, .int .u8 y0, .bool false, .slice none 0 0, .slice none 0 0, .int .u8 k1, .int .i64 a1, .int .u8 y1, .bool false, .slice none 0 0, .slice none 0 0, .int .u8 0, .int .i64 0, .int .u8 0, .bool false, .slice none 0 0, .slice (some ⟨W.heap.size, 0, none⟩) 1 1] 73))
      (.slice (some ⟨W.heap.size + 1, 0, none⟩) 3 3) [⟨k0, a0, y0, false, [], []⟩, ⟨k1, a1, y1, false, [], []⟩, ⟨0, 0, 0, false, [], [n]⟩] := by
  have e2 := heap_alloc_new (W.alloc (.cells #[.int .u8 n] 5)) (.cells #[.int .u8 k0, .int .i64 a0, .int .u8 y0, .bool false, .slice none 0 0, .slice none 0 0, .int .u8 k1, .int .i64 a1, .int .u8 y1, .bool false, .slice none 0 0, .slice none 0 0, .int .u8 0, .int .i64 0, .int .u8 0, .bool false, .slice none 0 0, .slice (some ⟨W.heap.size, 0, none⟩) 1 1] 73)
  have hb := below_alloc (W.alloc (.cells #[.int .u8 n] 5)) (.cells #[.int .u8 k0, .int .i64 a0, .int .u8 y0, .bool false, .slice none 0 0, .slice none 0 0, .int .u8 k1, .int .i64 a1, .int .u8 y1, .bool false, .slice none 0 0, .slice none 0 0, .int .u8 0, .int .i64 0, .int .u8 0, .bool false, .slice none 0 0, .slice (some ⟨W.heap.size, 0, none⟩) 1 1] 73)
  have e1 := (hb.block W.heap.size (by simp)).trans (heap_alloc_new W (.cells #[.int .u8 n] 5))
  rw [World.size_alloc] at e2
  obtain ⟨X, hX⟩ : ∃ X, X = (W.alloc (.cells #[.int .u8 n] 5)).alloc (.cells #[.int .u8 k0, .int .i64 a0, .int .u8 y0, .bool false, .slice none 0 0, .slice none 0 0, .int .u8 k1, .int .i64 a1, .int .u8 y1, .bool false, .slice none 0 0, .slice none 0 0, .int .u8 0, .int .i64 0, .int .u8 0, .bool false, .slice none 0 0, .slice (some ⟨W.heap.size, 0, none⟩) 1 1] 73) := ⟨_, rfl⟩
  rw [← hX] at e1 e2 ⊢
  clear hb hX
  refine ⟨_, 3, rfl, by simp, (fun e => by cases e), fun _ => ⟨W.heap.size + 1, 0, rfl, h1, lt_of_block e2, fun i o ho => ?_⟩⟩
  have nd : ∀ T, RowIn T .u8 X (.slice none 0 0) [] := fun T => RowIn.nil _ _ _
  match i, ho with
  | 0, ho =>
    obtain rfl := Option.some.inj ho
    exact ⟨_, _, ⟨by simp [World.cell?, e2], by simp [World.cell?, e2], by simp [World.cell?, e2], by simp [World.cell?, e2], by simp [World.cell?, e2], by simp [World.cell?, e2]⟩, no_pairs _ _, nd _⟩
  | 1, ho =>
    obtain rfl := Option.some.inj ho
    exact ⟨_, _, ⟨by simp [World.cell?, e2], by simp [World.cell?, e2], by simp [World.cell?, e2], by simp [World.cell?, e2], by simp [World.cell?, e2], by simp [World.cell?, e2]⟩, no_pairs _ _, nd _⟩
  | 2, ho =>
    obtain rfl := Option.some.inj ho
    refine ⟨_, .slice (some ⟨W.heap.size, 0, none⟩) 1 1, ⟨by simp [World.cell?, e2], by simp [World.cell?, e2], by simp [World.cell?, e2], by simp [World.cell?, e2], by simp [World.cell?, e2], by simp [World.cell?, e2]⟩, no_pairs _ _, ⟨_, 1, rfl, fun _ => ⟨W.heap.size, 0, rfl, h0, lt_of_block e1, fun j hj => ?_⟩⟩⟩
    have : j = 0 := by simp at hj; omega
    subst this
    simp [World.cell?, e1]
/-- The plane of the example. -/
structure PxQ (w : World) (b g : Nat) (cur : Int) (L : List Cl) (W : World) : Prop where
  p : PlAt W b g 1 5 cur L
  old : Below w.heap.size w W
  lb : w.heap.size ≤ b
  lg : w.heap.size ≤ g
section
variable {w W W' : World} {b g : Nat} {cur : Int} {L : List Cl}
theorem PxQ.below (h : PxQ w b g cur L W) (t : Below W.heap.size W W') : PxQ w b g cur L W' := ⟨h.p.below t, h.old.trans (t.mono h.old.size), h.lb, h.lg⟩
theorem PxQ.paint (h : PxQ w b g cur L W) {cur' : Int} {L' : List Cl} (hp : PlAt W' b g 1 5 cur' L') (t : Turn (Or2 (At b) (At g)) W W') : PxQ w b g cur' L' W' :=
  ⟨hp, h.old.trans (t.below h.old.size (fun k hk => by have h1 := h.lb; have h2 := h.lg; rcases hk with hk | hk <;> unfold At at hk <;> omega)), h.lb, h.lg⟩
end
theorem px_cells : cells 1 5 = ((5 : Nat) : Int) := by decide
theorem pe_at : atL pe1 3 = peS ∧ atL pe1 4 = peA ∧ atL pe1 2 = c0 := by decide
set_option maxRecDepth 100000 in
set_option maxHeartbeats 8000000 in
theorem pt_alive (w : World) : Calls Try.prog 31 #[] w fun e W => e = .returned (.bool true) ∧ Below w.heap.size w W := by
  have e1 : ∀ w : World, (binOp .eql 45 (.agg #[.int .u8 32, .bool false, .bool true, .int .u8 0, .int .u8 0]) (.agg #[.int .u8 32, .bool false, .bool true, .int .u8 0, .int .u8 0])).run Try.prog w = .ok (.bool true) w := fun w => by kernel_rfl
  have e2 : ∀ w : World, (binOp .eql 45 (.agg #[.int .u8 0, .bool false, .bool false, .int .u8 0, .int .u8 0]) (.agg #[.int .u8 0, .bool false, .bool false, .int .u8 0, .int .u8 0])).run Try.prog w = .ok (.bool true) w := fun w => by kernel_rfl
  have hfl := cell_byte 193 false false 0 0
  have HN := Lib.hid (new_yes 1 5 5 w px_cells (by omega) (by omega))
  go_enter Try.func31, Try.ntmps31
  go_wp2_with (go_at_call 48; (with_reducible refine HN.out.mono ?_); rintro e w1 ⟨b, g, rfl, hp, hb, l1, l2⟩; have H1 := Lib.hid (show PxQ w b g 0 pe0 w1 from ⟨hp, hb, l1, l2⟩); clear hp hb l1 l2)
  have n1 := H1.out.p.lt
  have n2 := H1.out.p.ltg
  have hx1 := H1.out.below ((below_alloc w1 (.cells #[.int .u8 193] 5)).trans ((below_alloc (w1.alloc (.cells #[.int .u8 193] 5)) (.cells #[.int .u8 17, .int .i64 3, .int .u8 0, .bool false, .slice none 0 0, .slice none 0 0, .int .u8 29, .int .i64 0, .int .u8 32, .bool false, .slice none 0 0, .slice none 0 0, .int .u8 0, .int .i64 0, .int .u8 0, .bool false, .slice none 0 0, .slice (some ⟨w1.heap.size, 0, none⟩) 1 1] 73)).mono (by simp)))
  have hpa := paint_any (os := po1) (row3 (fun k => k ≠ b ∧ k ≠ g) w1 17 3 0 29 0 32 193 (by omega) (by omega)) po1_ok (by decide) hx1.p pe0_bo 0
  rw [pa1] at hpa
  unfold PQ at hpa
  simp only at hpa
  refine hpa.mono ?_
  rintro e w2 ⟨rfl, hp2, _, ht2⟩
  have H2 := Lib.hid (hx1.paint hp2 ht2)
  clear hpa hx1 hp2 ht2 n1 n2 H1
  go_wp2_with fail
  have n1 := H2.out.p.lt
  have n2 := H2.out.p.ltg
  have hx1 := H2.out.below ((below_alloc w2 (.cells #[.int .u8 194] 5)).trans ((below_alloc (w2.alloc (.cells #[.int .u8 194] 5)) (.cells #[.int .u8 19, .int .i64 0, .int .u8 0, .bool false, .slice none 0 0, .slice none 0 0, .int .u8 17, .int .i64 5, .int .u8 0, .bool false, .slice none 0 0, .slice none 0 0, .int .u8 0, .int .i64 0, .int .u8 0, .bool false, .slice none 0 0, .slice (some ⟨w2.heap.size, 0, none⟩) 1 1] 73)).mono (by simp)))
  have hpa := paint_any (os := po2) (row3 (fun k => k ≠ b ∧ k ≠ g) w2 19 0 0 17 5 0 194 (by omega) (by omega)) po2_ok (by decide) hx1.p pe1_bo 2
  rw [pa2] at hpa
  unfold PQ at hpa
  simp only at hpa
  refine hpa.mono ?_
  rintro e w3 ⟨rfl, hp3, _, ht3⟩
  have H3 := Lib.hid (hx1.paint hp3 ht3)
  clear hpa hx1 hp3 ht3 n1 n2 H2
  have hpa := paint_any (w := w3) (os := []) (v := .slice none 0 0) ⟨none, 0, rfl, Nat.le_refl _, fun _ => rfl, fun h => absurd rfl h⟩ (fun o ho => by cases ho) (by decide) H3.out.p pe1_bo 5
  rw [pa3] at hpa
  unfold PQ at hpa
  simp only at hpa
  have HPA := Lib.hid hpa
  clear hpa
  go_wp2_with (first
    | (go_at_call 34; refine HPA.out.mono ?_; rintro e w4 ⟨rfl, hp4, _, ht4⟩; have H4 := Lib.hid (H3.out.paint hp4 ht4); clear hp4 ht4)
    | (go_at_call 40; (with_reducible refine (at_is H4.out.p pe_at.1.symm).mono ?_); rintro e w5 ⟨rfl, hb5⟩; simp only [Cl.val, peS]; have H5 := Lib.hid (H4.out.below hb5); clear hb5)
    | (go_at_call 40; (with_reducible refine (at_is H5.out.p pe_at.2.1.symm).mono ?_); rintro e w6 ⟨rfl, hb6⟩; simp only [Cl.val, peA]; have H6 := Lib.hid (H5.out.below hb6); clear hb6)
    | (go_at_call 41; (with_reducible refine (cursor_any H6.out.p).mono ?_); rintro e w7 ⟨rfl, rfl⟩)
    | (go_at_call 40; (with_reducible refine (at_is H6.out.p pe_at.2.2.symm).mono ?_); rintro e w8 ⟨rfl, hb8⟩; simp only [Cl.val, c0]; have H8 := Lib.hid (H6.out.below hb8); clear hb8))
  go_ret
  exact ⟨rfl, H8.out.old⟩
end Go.Proofs.Ytglkjcdbffkbcaa.Pl
