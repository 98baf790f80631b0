/-
  The options and the reference's, side by side in memory.
-/
import Derived.Test.YtbliangchllmhaaOptPlaysC
import Derived.Test.YtbliangchllmhaaOptionMayWalk
namespace Go.Proofs.Ytbliangchllmhaa.Opt
open Go.RowKit Base
set_option linter.unusedVariables false

theorem i64_mask (n : Int) (m k : Nat) (hk : k ≤ 63) (hm : (BitVec.ofInt 64 (m : Int)).toNat = 2 ^ k - 1) (hp : (2 ^ k : Nat) ≤ 9223372036854775807) : bits .and .i64 n (m : Int) = n % ((2 ^ k : Nat) : Int) := by
  have key : (BitVec.ofInt 64 n &&& BitVec.ofInt 64 (m : Int)).toNat = (n % ((2 ^ 64 : Nat) : Int)).toNat % 2 ^ k := by
    rw [BitVec.toNat_and, BitVec.toNat_ofInt, hm, Nat.and_two_pow_sub_one_eq_mod]
  show IntKind.i64.wrap ((BitVec.ofInt 64 n &&& BitVec.ofInt 64 (m : Int)).toNat : Nat) = n % ((2 ^ k : Nat) : Int)
  rw [key]
  have hpos : 0 < 2 ^ k := Nat.two_pow_pos k
  have hdvd : ((2 ^ k : Nat) : Int) ∣ ((2 ^ 64 : Nat) : Int) := by
    have : 2 ^ k ∣ 2 ^ 64 := Nat.pow_dvd_pow 2 (by omega)
    exact Int.natCast_dvd_natCast.mpr this
  have h0 : 0 ≤ n % ((2 ^ 64 : Nat) : Int) := Int.emod_nonneg _ (by decide)
  have h1 : (((n % ((2 ^ 64 : Nat) : Int)).toNat % 2 ^ k : Nat) : Int) = n % ((2 ^ k : Nat) : Int) := by
    rw [Int.natCast_emod, Int.toNat_of_nonneg h0, Int.emod_emod_of_dvd _ hdvd]
  have h2 : n % ((2 ^ k : Nat) : Int) < ((2 ^ k : Nat) : Int) := Int.emod_lt_of_pos _ (by omega)
  have h3 : 0 ≤ n % ((2 ^ k : Nat) : Int) := Int.emod_nonneg _ (by omega)
  rw [h1]
  exact IntWalk.i64_in _ (by omega)
theorem and1023 (n : Int) : bits .and .i64 n 1023 = n % 1024 := i64_mask n 1023 10 (by decide) (by decide) (by decide)
theorem and255 (n : Int) : bits .and .i64 n 255 = n % 256 := i64_mask n 255 8 (by decide) (by decide) (by decide)

/-- The reference's options in block X, behind the options' block b. -/
structure PB (b X : Nat) (u v x : Value) (L : List One) (W : World) : Prop where
  box : W.heap[X]? = some (.cells #[x, u, v] 61 (0, 0))
  row : OneRow (X + 1) W x L
  lt : b < X
section
variable {b X : Nat} {u v x : Value} {L : List One} {w W W' : World} {M : Nat → Bool} {S : Nat → Nat}
theorem PB.turn (h : PB b X u v x L W) (t : Turn (At b) W W') : PB b X u v x L W' := by
  have := h.lt
  exact ⟨(t.block X (lt_of_block h.box) (by unfold At; omega)).trans h.box, h.row.keep' fun g hg => t.block g (h.row.own_lt g hg) (by have := own_first h.row g hg; unfold At; omega), h.lt⟩
theorem PB.below (h : PB b X u v x L W) (t : Below W.heap.size W W') : PB b X u v x L W' := h.turn (Turn.of_below t)
theorem PB.cells (h : PB b X u v x L W) : W.cell? ⟨X, 0, none⟩ = some x ∧ W.cell? ⟨X, 1, none⟩ = some u ∧ W.cell? ⟨X, 2, none⟩ = some v ∧ X < W.heap.size ∧ ∀ o, W.frozen? ⟨X, o, none⟩ = false :=
  ⟨by simp [World.cell?, h.box], by simp [World.cell?, h.box], by simp [World.cell?, h.box], lt_of_block h.box, fun o => by simp [World.frozen?, h.box]⟩
/-- Another row laid into the box. -/
theorem PB.put {x' : Value} {L' : List One} (h : PB b X u v x L W) (hr : OneRow (X + 1) W x' L') : PB b X u v x' L' (W.setCell ⟨X, 0, none⟩ x') ∧ PB b X u v x' L' (put3 W X x' u v) := by
  refine ⟨⟨heap_set h.box 0 x', hr.keep' fun g hg => Below.heap_setCell _ _ _ _ (by have := own_first hr g hg; show g ≠ X; omega), h.lt⟩, ⟨heap_set (heap_set (heap_set h.box 0 x') 1 u) 2 v, hr.keep' fun g hg => put3_block W X x' u v g (by have := own_first hr g hg; omega), h.lt⟩⟩
theorem OA.keepX (h : OA b w W M S) (hX : b < X) (t : Turn (At X) W W') : OA b w W' M S := by
  have := h.new
  exact ⟨h.opt.keep t (by unfold At; omega), h.le, h.old.trans (t.at_below h.old.size (by omega)), h.new⟩
end
theorem PB.noByte {b X : Nat} {L : List One} {W : World} {xa ua va : Option Addr} {xn xc un uc vn vc : Nat} (h : PB b X (.slice ua un uc) (.slice va vn vc) (.slice xa xn xc) L W) : ∀ o k, W.cell? ⟨X, o, none⟩ ≠ some (.int .u8 k) := by
  intro o k hc
  simp only [World.cell?, h.box] at hc
  match o, hc with
  | 0, hc => simp at hc
  | 1, hc => simp at hc
  | 2, hc => simp at hc
  | o + 3, hc => simp at hc
theorem row_setX {X : Nat} {W W' : World} {v : Value} {L : List Int} (h : RowOf .u8 W v L) (hx : ∀ o k, W.cell? ⟨X, o, none⟩ ≠ some (.int .u8 k)) (t : Turn (At X) W W') : RowOf .u8 W' v L := by
  obtain ⟨a, cap, rfl, hr⟩ := h
  refine ⟨a, cap, rfl, fun hne => ?_⟩
  obtain ⟨g, off, rfl, hi⟩ := hr hne
  refine ⟨g, off, rfl, fun i hlt => ?_⟩
  have hc := hi i hlt
  have hg : g ≠ X := fun e => hx (off + i) _ (by rw [← e]; exact hc)
  exact (cell_block (t.block g (World.block_lt_of_cell? W ⟨g, off + i, none⟩ hc) hg) _).trans hc
/-- What holds between two steps. -/
structure PA (b X : Nat) (u v : Value) (w : World) (M : Nat → Bool) (k : Nat) (W : World) (S : Nat → Nat) (x : Value) (L : List One) : Prop where
  oa : OA b w W M S
  like : Like L S
  pb : PB b X u v x L W
  len : L.length ≤ k
theorem PA.below {b X : Nat} {u v x : Value} {L : List One} {w W W' : World} {M : Nat → Bool} {S : Nat → Nat} {k : Nat} (h : PA b X u v w M k W S x L) (t : Below W.heap.size W W') : PA b X u v w M k W' S x L :=
  ⟨h.oa.below t, h.like, h.pb.below t, h.len⟩
theorem PA.s {b X : Nat} {u v x : Value} {L : List One} {w W : World} {M : Nat → Bool} {S : Nat → Nat} {k : Nat} (h : PA b X u v w M k W S x L) : W.cell? ⟨X, 0, none⟩ = some x ∧ W.cell? ⟨X, 1, none⟩ = some u ∧ W.cell? ⟨X, 2, none⟩ = some v ∧ PA b X u v w M k W S x L := by
  obtain ⟨h0, h1, h2, _⟩ := h.pb.cells
  exact ⟨h0, h1, h2, h⟩
theorem PA.of_s {b X : Nat} {u v x : Value} {L : List One} {w W : World} {M : Nat → Bool} {S : Nat → Nat} {k : Nat} (h : W.cell? ⟨X, 0, none⟩ = some x ∧ W.cell? ⟨X, 1, none⟩ = some u ∧ W.cell? ⟨X, 2, none⟩ = some v ∧ PA b X u v w M k W S x L) : PA b X u v w M k W S x L := h.2.2.2
def PlayRel (b X : Nat) (u v : Value) (w : World) (M : Nat → Bool) (k : Nat) (W : World) : Prop := ∃ S x L, PA b X u v w M k W S x L
/-- A box of three cells that is read. -/
structure TS (t : Nat) (p q r : Value) (W : World) : Prop where
  c0 : W.cell? ⟨t, 0, none⟩ = some p
  c1 : W.cell? ⟨t, 1, none⟩ = some q
  c2 : W.cell? ⟨t, 2, none⟩ = some r
theorem TS.all {t : Nat} {p q r : Value} {W : World} (h : TS t p q r W) : W.cell? ⟨t, 0, none⟩ = some p ∧ W.cell? ⟨t, 1, none⟩ = some q ∧ W.cell? ⟨t, 2, none⟩ = some r := ⟨h.c0, h.c1, h.c2⟩
theorem TS.of {t : Nat} {p q r : Value} {W : World} (h : W.cell? ⟨t, 0, none⟩ = some p ∧ W.cell? ⟨t, 1, none⟩ = some q ∧ W.cell? ⟨t, 2, none⟩ = some r) : TS t p q r W := ⟨h.1, h.2.1, h.2.2⟩
theorem TS.drew {t : Nat} {p q r : Value} {W : World} (h : TS t p q r W) : TS t p q r W.drew := ⟨h.c0, h.c1, h.c2⟩
theorem TS.turn {t X : Nat} {p q r : Value} {W W' : World} (h : TS t p q r W) (u : Turn (At X) W W') (hne : t ≠ X) : TS t p q r W' := by
  have e := u.block t (World.block_lt_of_cell? _ _ h.c0) (by unfold At; exact hne)
  exact ⟨(cell_block e 0).trans h.c0, (cell_block e 1).trans h.c1, (cell_block e 2).trans h.c2⟩
theorem TS.set {t X : Nat} {p q r y : Value} {W : World} (h : TS t p q r W) (hne : t ≠ X) : TS t p q r (W.setCell ⟨X, 0, none⟩ y) := h.turn (turn_set W X 0 y) hne
theorem TS.put {t X : Nat} {p q r x y z : Value} {W : World} (h : TS t p q r W) (hne : t ≠ X) : TS t p q r (((W.setCell ⟨X, 0, none⟩ x).setCell ⟨X, 1, none⟩ y).setCell ⟨X, 2, none⟩ z) := h.turn (put3_turn W X x y z) hne
/-- What holds behind a step's answers, ahead of what is asked of them. -/
def PlayCut (b X ow : Nat) (u v : Value) (w : World) (M : Nat → Bool) (k : Nat) (wish : Bool) (c o : Nat) (g n : Value) (W : World) : Prop :=
  ∃ S x L Y, PA b X u v w M k W S x L ∧ RowOf .u8 W g Y ∧ RowOf .u8 W n Y ∧ Y.length ≤ 3 ∧ W.heap[ow]? = some (.cells #[.bool wish, .int .u8 c, .int .u8 o] 63 (0, 0))
theorem PlayCut.mk {b X ow k : Nat} {ua va xa : Option Addr} {un uc vn vc xn xc : Nat} {w W W' : World} {M : Nat → Bool} {wish : Bool} {c o : Nat} {g n x : Value} {S : Nat → Nat} {L R : List One} {Y : List Int}
    (hoa : OA b w W M S) (hlike : Like L S) (hp : PB b X (.slice ua un uc) (.slice va vn vc) (.slice xa xn xc) R W) (hl : L.length ≤ k) (hr : OneRow (X + 1) W x L) (hg : RowOf .u8 W g Y) (hn : RowOf .u8 W n Y) (hY : Y.length ≤ 3)
    (hc : W.heap[ow]? = some (.cells #[.bool wish, .int .u8 c, .int .u8 o] 63 (0, 0))) (hox : ow ≠ X) (hW : W' = W.setCell ⟨X, 0, none⟩ x ∨ W' = put3 W X x (.slice ua un uc) (.slice va vn vc)) :
    PlayCut b X ow (.slice ua un uc) (.slice va vn vc) w M k wish c o g n W' := by
  have ht : Turn (At X) W W' := by
    rcases hW with rfl | rfl
    · exact turn_set W X 0 x
    · exact put3_turn W X x _ _
  have hp' : PB b X (.slice ua un uc) (.slice va vn vc) x L W' := by
    rcases hW with rfl | rfl
    · exact (hp.put hr).1
    · exact (hp.put hr).2
  exact ⟨S, x, L, Y, ⟨hoa.keepX hp.lt ht, hlike, hp', hl⟩, row_setX hg hp.noByte ht, row_setX hn hp.noByte ht, hY, (ht.block ow (lt_of_block hc) (by unfold At; exact hox)).trans hc⟩
/-- Both, and the step's own box. -/
structure QA (b X ow : Nat) (u v : Value) (w : World) (M : Nat → Bool) (k : Nat) (wish : Bool) (c o : Nat) (S : Nat → Nat) (x : Value) (L : List One) (W : World) : Prop where
  pa : PA b X u v w M k W S x L
  cell : W.heap[ow]? = some (.cells #[.bool wish, .int .u8 c, .int .u8 o] 63 (0, 0))
section
variable {b X ow k c o : Nat} {u v x : Value} {w W W' : World} {M : Nat → Bool} {wish : Bool} {S : Nat → Nat} {L : List One}
theorem QA.below (h : QA b X ow u v w M k wish c o S x L W) (t : Below W.heap.size W W') : QA b X ow u v w M k wish c o S x L W' :=
  ⟨h.pa.below t, (t.block ow (lt_of_block h.cell)).trans h.cell⟩
theorem QA.drew (h : QA b X ow u v w M k wish c o S x L W) : QA b X ow u v w M k wish c o S x L W.drew := h.below (Below.drew (Below.refl _ W))
theorem QA.drewN (h : QA b X ow u v w M k wish c o S x L W) (n : Nat) : QA b X ow u v w M k wish c o S x L (W.drewN n) := h.below (below_drewN (Below.refl _ W) n)
theorem QA.s (h : QA b X ow u v w M k wish c o S x L W) : W.cell? ⟨X, 0, none⟩ = some x ∧ W.cell? ⟨X, 1, none⟩ = some u ∧ W.cell? ⟨X, 2, none⟩ = some v ∧ QA b X ow u v w M k wish c o S x L W := by
  obtain ⟨h0, h1, h2, _⟩ := h.pa.pb.cells
  exact ⟨h0, h1, h2, h⟩
theorem QA.of_s (h : W.cell? ⟨X, 0, none⟩ = some x ∧ W.cell? ⟨X, 1, none⟩ = some u ∧ W.cell? ⟨X, 2, none⟩ = some v ∧ QA b X ow u v w M k wish c o S x L W) : QA b X ow u v w M k wish c o S x L W := h.2.2.2
end
theorem said_le (M : Nat → Bool) (S : Nat → Nat) (c : Int) (o : Nat) : (gotS M S c o).2.length ≤ 3 := by
  rcases got_said M S c o with h | ⟨k, _, _, h⟩ <;> rw [h] <;> simp
theorem sayL_le (ours : Bool) (w o : Nat) : (sayL ours w o).length ≤ 3 := by unfold sayL; split <;> simp
theorem wsaid_le (S : Nat → Nat) (c : Int) (o : Nat) : (wantS S c o).2.1.length ≤ 3 := by
  unfold wantS
  repeat' split
  all_goals first | exact sayL_le _ _ _ | simp
theorem rgot_st (X na nb : Nat) (v : Value) (ya za : Option Addr) (yc zc : Nat) (L : List One) (A B : List Int) (hna : na = A.length) (hnb : nb = B.length) (c o : Nat) (w : World) (h : OneRow (X + 1) w v L) (hl : L.length ≤ 200) (hst : ∀ ours, stL L ours o ≤ 5) (hc : c < 256)
    (hy : RowOf .u8 w (.slice ya na yc) A) (hz : RowOf .u8 w (.slice za nb zc) B) (hA : A.length ≤ maxLen) (hB : B.length ≤ maxLen) (hbase : X < w.heap.size) :
    Calls Try.prog 35 #[.agg #[v, .slice ya na yc, .slice za nb zc], .int .u8 c, .int .u8 o] w (GotR (X + 1) (.slice ya na yc) (.slice za nb zc) (rgotR A B L c o).1 (rgotR A B L c o).2 w) := by
  subst hna hnb
  exact rgot_any (X + 1) v ya za yc zc L A B c o w h hl hst hc hy hz hA hB hbase
theorem rwant_st (X na nb : Nat) (v : Value) (ya za : Option Addr) (yc zc : Nat) (L : List One) (A B : List Int) (hna : na = A.length) (hnb : nb = B.length) (c o : Nat) (w : World) (h : OneRow (X + 1) w v L) (hl : L.length ≤ 200) (hst : ∀ ours, stL L ours o ≤ 5) (hc : c < 256)
    (hy : RowOf .u8 w (.slice ya na yc) A) (hz : RowOf .u8 w (.slice za nb zc) B) (hA : A.length ≤ maxLen) (hB : B.length ≤ maxLen) (hbase : X < w.heap.size) :
    Calls Try.prog 33 #[.agg #[v, .slice ya na yc, .slice za nb zc], .int .u8 c, .int .u8 o] w (WantR (X + 1) (.slice ya na yc) (.slice za nb zc) (rwantR L c o).1 (rwantR L c o).2.1 (rwantR L c o).2.2 w) := by
  subst hna hnb
  exact rwant_any (X + 1) v ya za yc zc L A B c o w h hl hst hc hy hz hA hB hbase
end Go.Proofs.Ytbliangchllmhaa.Opt
