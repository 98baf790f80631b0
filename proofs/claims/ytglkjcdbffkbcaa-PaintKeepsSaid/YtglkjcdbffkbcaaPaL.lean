/-
  Planes beside one another; as many signs as there are cells; rows of one order and of two.
-/
import Derived.Test.YtglkjcdbffkbcaaPaK
import Derived.Test.YtglkjcdbffkbcaaAppRow
namespace Go.Proofs.Ytglkjcdbffkbcaa.Pl
open Go.RowKit Go.Shelf Base
set_option linter.unusedVariables false
set_option linter.unusedSimpArgs false

/-- Two planes beside one another. -/
structure Duo (w : World) (b g b2 g2 : Nat) (r c : Int) (c1 c2 : Int) (L1 L2 : List Cl) (W : World) : Prop where
  p : P1 w b g r c c1 L1 W
  q : P1 w b2 g2 r c c2 L2 W
  old : Below w.heap.size w W
  n12 : b ≠ b2 ∧ b ≠ g2 ∧ g ≠ b2 ∧ g ≠ g2
section
variable {w W W' : World} {b g b2 g2 : Nat} {r c c1 c2 : Int} {L1 L2 : List Cl}
theorem Duo.below (h : Duo w b g b2 g2 r c c1 c2 L1 L2 W) (t : Below W.heap.size W W') : Duo w b g b2 g2 r c c1 c2 L1 L2 W' :=
  ⟨h.p.below t, h.q.below t, h.old.trans (t.mono h.old.size), h.n12⟩
theorem Duo.two (h : Duo w b g b2 g2 r c c1 c2 L1 L2 W) {c1' : Int} {L1' : List Cl} (hp : PlAt W' b2 g2 r c c1' L1') (t : Turn (Or2 (At b2) (At g2)) W W') : Duo w b g b2 g2 r c c1 c1' L1 L1' W' := by
  obtain ⟨x1, x2, x3, x4⟩ := h.n12
  exact ⟨h.p.beside t x1 x2 x3 x4, ⟨hp, h.q.lb, h.q.lg⟩, old_turn h.old t h.q.lb h.q.lg, h.n12⟩
theorem Duo.made (h : P1 w b g r c c1 L1 W) (ho : Below w.heap.size w W) {W1 : World} (h2 : PlAt W1 b2 g2 r c c2 L2) (t1 : Below W.heap.size W W1) (lb2 : W.heap.size ≤ b2) (lg2 : W.heap.size ≤ g2) :
    Duo w b g b2 g2 r c c1 c2 L1 L2 W1 := by
  have e1 := h.pl.lt
  have e2 := h.pl.ltg
  have e5 := ho.size
  exact ⟨h.below t1, ⟨h2, by omega, by omega⟩, ho.trans (t1.mono e5), ⟨by omega, by omega, by omega, by omega⟩⟩
end
theorem step_two {n p : Int} {i : Nat} (h0 : 0 ≤ p) (h1 : p < n) (hi : (i : Int) < n) : step n p i = if p + i < n then p + i else p + i - n := by
  unfold step
  split
  · exact Int.emod_eq_of_lt (by omega) (by assumption)
  · rw [← Int.sub_emod_right]; exact Int.emod_eq_of_lt (by omega) (by omega)
theorem step_ne {n p : Int} {i k : Nat} (h0 : 0 ≤ p) (h1 : p < n) (hi : i < k) (hk : (k : Int) < n) : step n p i ≠ step n p k := by
  rw [step_two h0 h1 (by omega), step_two h0 h1 hk]
  split <;> split <;> omega
/-- Signs laid round: where the place is, and what stands. -/
theorem data_round {B : Bs} (d : List Int) (h0 : 0 ≤ B.p) (h1 : B.p < B.M.length) : ∀ k : Nat, k ≤ d.length → k ≤ B.M.length →
    (B.data (d.take k)).p = step B.M.length B.p k ∧ (B.data (d.take k)).M.length = B.M.length ∧ (B.data (d.take k)).cur = B.cur ∧ (B.data (d.take k)).look = B.look ∧
    ∀ i, i < k → atL (B.data (d.take k)).M (step B.M.length B.p i) = ⟨d[i]?.getD 0, false, false, B.look.li, B.look.co⟩
  | 0, _, _ => by
    refine ⟨?_, rfl, rfl, rfl, fun i hi => by omega⟩
    show B.p = _
    rw [step_zero _ _ h0 h1]
  | k + 1, hk, hn => by
    obtain ⟨e1, e2, e3, e4, e5⟩ := data_round d h0 h1 k (by omega) (by omega)
    rw [data_take B d k (by omega)]
    obtain ⟨C, hC⟩ : ∃ C, C = B.data (d.take k) := ⟨_, rfl⟩
    rw [← hC] at e1 e2 e3 e4 e5 ⊢
    have hb := step_bd (B.M.length : Int) B.p k (by omega)
    refine ⟨?_, ?_, e3, e4, fun i hi => ?_⟩
    · show mv C.M.length C.p 1 = _
      rw [e1, e2, step_succ _ _ _ (by omega)]
    · show (setL C.M C.p _).length = _
      rw [setL_length, e2]
    · show atL (setL C.M C.p (C.chr (d[k]?.getD 0) false)) _ = _
      rw [atL_setL', e1, e2]
      by_cases hik : i = k
      · subst hik
        rw [if_pos ⟨rfl, hb.1, hb.2⟩]
        show (⟨d[i]?.getD 0, false, false, C.look.li, C.look.co⟩ : Cl) = _
        rw [e4]
      · rw [if_neg (fun h => step_ne h0 h1 (show i < k by omega) (by omega) h.1)]
        exact e5 i (by omega)
theorem step_round {n p : Int} {k : Nat} (h0 : 0 ≤ p) (h1 : p < n) (hk : (k : Int) = n) : step n p k = p := by
  unfold step
  rw [hk, Int.add_emod_right]
  exact Int.emod_eq_of_lt h0 h1
/-- One order of signs. -/
theorem paint_data {M : List Cl} {cur p : Int} (d : List Int) (h0 : 0 ≤ p) (h1 : p < M.length) (hd : d.length = M.length) :
    ∃ M', paintB M cur [⟨0, 0, 0, false, [], d⟩] p = (⟨M', cur, p, c0, decide (0 < d.length)⟩, 1, 0) ∧ ∀ i, i < d.length → atL M' (step M.length p i) = ⟨d[i]?.getD 0, false, false, 0, 0⟩ := by
  have hr := data_round (B := ⟨M, cur, p, c0, false⟩) d h0 h1 d.length (Nat.le_refl _) (by show d.length ≤ M.length; omega)
  rw [List.take_length] at hr
  obtain ⟨e1, e2, e3, e4, e5⟩ := hr
  obtain ⟨C, hC⟩ : ∃ C, C = (⟨M, cur, p, c0, false⟩ : Bs).data d := ⟨_, rfl⟩
  rw [← hC] at e1 e2 e3 e4 e5
  rw [step_round (n := ((⟨M, cur, p, c0, false⟩ : Bs).M.length : Int)) h0 h1 (by show (d.length : Int) = (M.length : Int); omega)] at e1
  refine ⟨C.M, ?_, e5⟩
  have hh : hasL M p = true := by unfold hasL; simp [h0, h1]
  rw [paintB_in _ hh, runB_cons]
  have hd1 : doB ⟨M, cur, p, c0, false⟩ ⟨0, 0, 0, false, [], d⟩ = (⟨C.M, cur, p, c0, decide (0 < d.length)⟩, 0) := by
    show (({ (⟨M, cur, p, c0, false⟩ : Bs).data d with laid := _ } : Bs), (0 : Int)) = _
    rw [← hC]
    obtain ⟨CM, Cc, Cp, Cl, Cb⟩ := C
    simp only at e1 e3 e4 ⊢
    rw [e1, e3, e4]
    show ((⟨CM, cur, p, c0, laidB ⟨0, 0, 0, false, [], d⟩⟩ : Bs), (0 : Int)) = _
    rfl
  rw [hd1, if_pos rfl]
  rfl
/-- An order that isn't known. -/
theorem paint_unknown {M : List Cl} {cur p : Int} (o : Or) (h0 : 0 ≤ p) (h1 : p < M.length) : paintB M cur [⟨119, 0, 0, false, [], []⟩, o] p = (⟨M, cur, p, c0, false⟩, 0, 31) := by
  have hh : hasL M p = true := by unfold hasL; simp [h0, h1]
  rw [paintB_in _ hh, runB_cons]
  rfl
/-- Two orders, written out, the last of one byte. -/
theorem row2o (T : Nat → Prop) (W : World) (k0 n : Int) (h0 : T W.heap.size) (h1 : T (W.heap.size + 1)) :
    OrdsIn T ((W.alloc (.cells #[.int .u8 n] 5)).alloc (.cells #[.int .u8 k0, .int .i64 0, .int .u8 0, .bool false, .slice none 0 0, .slice none 0 0, .int .u8 0, .int .i64 0, .int .u8 0, .bool false, .slice none 0 0, .slice (some ⟨W.heap.size, 0, none⟩) 1 1] 73))
      (.slice (some ⟨W.heap.size + 1, 0, none⟩) 2 2) [⟨k0, 0, 0, false, [], []⟩, ⟨0, 0, 0, false, [], [n]⟩] := by
  have e2 := heap_alloc_new (W.alloc (.cells #[.int .u8 n] 5)) (.cells #[.int .u8 k0, .int .i64 0, .int .u8 0, .bool false, .slice none 0 0, .slice none 0 0, .int .u8 0, .int .i64 0, .int .u8 0, .bool false, .slice none 0 0, .slice (some ⟨W.heap.size, 0, none⟩) 1 1] 73)
  have hb := below_alloc (W.alloc (.cells #[.int .u8 n] 5)) (.cells #[.int .u8 k0, .int .i64 0, .int .u8 0, .bool false, .slice none 0 0, .slice none 0 0, .int .u8 0, .int .i64 0, .int .u8 0, .bool false, .slice none 0 0, .slice (some ⟨W.heap.size, 0, none⟩) 1 1] 73)
  have e1 := (hb.block W.heap.size (by simp)).trans (heap_alloc_new W (.cells #[.int .u8 n] 5))
  rw [World.size_alloc] at e2
  obtain ⟨X, hX⟩ : ∃ X, X = (W.alloc (.cells #[.int .u8 n] 5)).alloc (.cells #[.int .u8 k0, .int .i64 0, .int .u8 0, .bool false, .slice none 0 0, .slice none 0 0, .int .u8 0, .int .i64 0, .int .u8 0, .bool false, .slice none 0 0, .slice (some ⟨W.heap.size, 0, none⟩) 1 1] 73) := ⟨_, rfl⟩
  rw [← hX] at e1 e2 ⊢
  clear hb hX
  refine ⟨_, 2, rfl, by simp, (fun e => by cases e), fun _ => ⟨W.heap.size + 1, 0, rfl, h1, lt_of_block e2, fun i o ho => ?_⟩⟩
  match i, ho with
  | 0, ho =>
    obtain rfl := Option.some.inj ho
    exact ⟨_, _, ⟨by simp [World.cell?, e2], by simp [World.cell?, e2], by simp [World.cell?, e2], by simp [World.cell?, e2], by simp [World.cell?, e2], by simp [World.cell?, e2]⟩, no_pairs _ _, RowIn.nil _ _ _⟩
  | 1, ho =>
    obtain rfl := Option.some.inj ho
    refine ⟨_, .slice (some ⟨W.heap.size, 0, none⟩) 1 1, ⟨by simp [World.cell?, e2], by simp [World.cell?, e2], by simp [World.cell?, e2], by simp [World.cell?, e2], by simp [World.cell?, e2], by simp [World.cell?, e2]⟩, no_pairs _ _, ⟨_, 1, rfl, fun _ => ⟨W.heap.size, 0, rfl, h0, lt_of_block e1, fun j hj => ?_⟩⟩⟩
    have : j = 0 := by simp at hj; omega
    subst this
    simp [World.cell?, e1]
/-- One order, written out, of a row of bytes. -/
theorem row1o (T : Nat → Prop) (W : World) (k0 a0 y0 : Int) (ge : Bool) (d : List Int) (v : Value) (hd : RowIn T .u8 W v d) (h0 : T W.heap.size) :
    OrdsIn T (W.alloc (.cells #[.int .u8 k0, .int .i64 a0, .int .u8 y0, .bool ge, .slice none 0 0, v] 73)) (.slice (some ⟨W.heap.size, 0, none⟩) 1 1) [⟨k0, a0, y0, ge, [], d⟩] := by
  have e2 := heap_alloc_new W (.cells #[.int .u8 k0, .int .i64 a0, .int .u8 y0, .bool ge, .slice none 0 0, v] 73)
  have hd2 := hd.below (below_alloc W (.cells #[.int .u8 k0, .int .i64 a0, .int .u8 y0, .bool ge, .slice none 0 0, v] 73))
  obtain ⟨X, hX⟩ : ∃ X, X = W.alloc (.cells #[.int .u8 k0, .int .i64 a0, .int .u8 y0, .bool ge, .slice none 0 0, v] 73) := ⟨_, rfl⟩
  rw [← hX] at e2 hd2 ⊢
  refine ⟨_, 1, rfl, by simp, (fun e => by cases e), fun _ => ⟨W.heap.size, 0, rfl, h0, lt_of_block e2, fun i o ho => ?_⟩⟩
  match i, ho with
  | 0, ho =>
    obtain rfl := Option.some.inj ho
    exact ⟨_, _, ⟨by simp [World.cell?, e2], by simp [World.cell?, e2], by simp [World.cell?, e2], by simp [World.cell?, e2], by simp [World.cell?, e2], by simp [World.cell?, e2]⟩, no_pairs _ _, hd2⟩
end Go.Proofs.Ytglkjcdbffkbcaa.Pl
