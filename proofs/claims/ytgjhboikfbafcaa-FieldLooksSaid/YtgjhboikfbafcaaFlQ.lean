/-
  The example of the statements about fields.
-/
import Derived.Test.YtgjhboikfbafcaaFlS
import Derived.Test.YtgjhboikfbafcaaFlP
namespace Go.Proofs.Ytgjhboikfbafcaa.Pl
open Go.RowKit Go.Shelf Base
set_option linter.unusedVariables false
set_option linter.unusedSimpArgs false

def eS : Cl := ⟨64, false, true, 0, 0⟩
def eA : Cl := ⟨193, false, false, 0, 0⟩
def e0 : List Cl := List.replicate 5 c0
def e1 : List Cl := setL e0 3 eS
def e2 : List Cl := setL e1 4 eA
def e3 : List Cl := markL e2 0
def eF : Fd := ⟨3, 4, 0⟩
theorem e_vals : (befL e0 0 != -1) = false ∧ opnL e0 2 = true ∧ ofF e2 1 = eF ∧ isF e2 1 = true ∧ isF e2 0 = true ∧ unmN (unmF e3) = 1 ∧ unmL e3 (unmF e3) = e2 ∧ (befL e2 0 != -1) = true ∧ befL e2 3 = 3 ∧ aftL e2 3 = 3 ∧ opnL e2 3 = false ∧ opnL e2 4 = true ∧ homeL e2 = 4 := by decide +kernel
theorem e_places : (placesL e2.length eF.s eF.k).take 9 = [4, 0, 1, 2] ∧ placesL e2.length eF.s eF.k = [4, 0, 1, 2] := by decide +kernel
theorem e_all : ((allL e2).take 9).length = 1 := by decide +kernel
theorem e_text : ftextL 37 e2 eF = [65, 32, 32, 32] := by decide +kernel
theorem e_has : hasL e0 3 = true ∧ hasL e1 4 = true ∧ cells 1 5 = ((5 : Nat) : Int) := by decide +kernel
theorem e2_eq : e2 = [c0, c0, c0, eS, eA] ∧ e3 = [c0, c0, c0, ⟨65, false, true, 0, 0⟩, eA] := by decide +kernel
theorem bo_of_ok {L : List Cl} (h : OkL L) : BoL L := fun i => (atL_ok h i).1
theorem e0_ok : OkL e0 := by intro x hx; rw [List.eq_of_mem_replicate hx]; exact c0_ok
theorem e2_ok : OkL e2 := by
  rw [e2_eq.1]; intro x hx
  simp at hx
  rcases hx with rfl | rfl | rfl <;> simp [Cl.Ok, c0, eS, eA]
theorem e3_ok : OkL e3 := by
  rw [e2_eq.2]; intro x hx
  simp at hx
  rcases hx with rfl | rfl | rfl <;> simp [Cl.Ok, c0, eA]
theorem e_data : (placesL e2.length eF.s eF.k).map (byteV e2) = [.int .u8 193, .int .u8 0, .int .u8 0, .int .u8 0] := by
  rw [e_places.2]
  have h : (atL e2 4).b = 193 ∧ (atL e2 0).b = 0 ∧ (atL e2 1).b = 0 ∧ (atL e2 2).b = 0 := by decide +kernel
  obtain ⟨h1, h2, h3, h4⟩ := h
  simp [byteV, h1, h2, h3, h4]
/-- What the example holds. -/
structure ExQ (w : World) (b g : Nat) (L : List Cl) (W : World) : Prop where
  p : PlAt W b g 1 5 0 L
  old : Below w.heap.size w W
  lb : w.heap.size ≤ b
  lg : w.heap.size ≤ g
section
variable {w W W' : World} {b g : Nat} {L : List Cl}
theorem ExQ.below (h : ExQ w b g L W) (t : Below W.heap.size W W') : ExQ w b g L W' := ⟨h.p.below t, h.old.trans (t.mono h.old.size), h.lb, h.lg⟩
theorem x_new (w : World) : Calls Try.prog 44 #[.agg #[.int .i64 1, .int .i64 5]] w fun e W => ∃ b g, e = .returned (.tuple #[.pointer (some ⟨b, 0, none⟩), .int .i64 0]) ∧ ExQ w b g e0 W :=
  (new_yes 1 5 5 w e_has.2.2 (by omega) (by omega)).mono fun e W ⟨b, g, he, hp, hb, h1, h2⟩ => ⟨b, g, he, hp, hb, h1, h2⟩
theorem x_fmt0 (h : ExQ w b g e0 W) : Calls Try.prog 11 #[.pointer (some ⟨b, 0, none⟩)] W fun e W' => e = .returned (.bool false) ∧ ExQ w b g e0 W' :=
  (formatted_any h.p).mono fun e W' ⟨he, hb⟩ => ⟨by rw [he, e_vals.1], h.below hb⟩
theorem x_open2 (h : ExQ w b g e0 W) : Calls Try.prog 26 #[.pointer (some ⟨b, 0, none⟩), .int .i64 2] W fun e W' => e = .returned (.bool true) ∧ ExQ w b g e0 W' :=
  (open_any h.p 2 (bo_of_ok e0_ok)).mono fun e W' ⟨he, hb⟩ => ⟨by rw [he, e_vals.2.1], h.below hb⟩
theorem x_set3 (h : ExQ w b g e0 W) : Calls Try.prog 45 #[.pointer (some ⟨b, 0, none⟩), .int .i64 3, .agg #[.int .u8 64, .bool false, .bool true, .int .u8 0, .int .u8 0]] W fun e W' => (∃ v, e = .returned v) ∧ ExQ w b g e1 W' :=
  (set_any h.p 3 eS).mono fun e W' ⟨he, hp, ht⟩ => ⟨⟨_, he⟩, hp, h.old.trans (ht.at_below h.old.size h.lg), h.lb, h.lg⟩
theorem x_set4 (h : ExQ w b g e1 W) : Calls Try.prog 45 #[.pointer (some ⟨b, 0, none⟩), .int .i64 4, .agg #[.int .u8 193, .bool false, .bool false, .int .u8 0, .int .u8 0]] W fun e W' => (∃ v, e = .returned v) ∧ ExQ w b g e2 W' :=
  (set_any h.p 4 eA).mono fun e W' ⟨he, hp, ht⟩ => ⟨⟨_, he⟩, hp, h.old.trans (ht.at_below h.old.size h.lg), h.lb, h.lg⟩
theorem x_of (h : ExQ w b g e2 W) : Calls Try.prog 21 #[.pointer (some ⟨b, 0, none⟩), .int .i64 1] W fun e W' => e = .returned (.tuple #[.agg #[.int .i64 3, .int .i64 4, .int .u8 0], .bool true]) ∧ ExQ w b g e2 W' :=
  (of_any h.p 1 (bo_of_ok e2_ok)).mono fun e W' ⟨he, hb⟩ => ⟨by rw [he, e_vals.2.2.1, e_vals.2.2.2.1]; rfl, h.below hb⟩
/-- With the field's own block F. -/
structure ExF (w : World) (b g F : Nat) (L : List Cl) (W : World) : Prop where
  q : ExQ w b g L W
  f : W.heap[F]? = some (.cells #[.int .i64 3, .int .i64 4, .int .u8 0] 39 (0, 0))
variable {F : Nat}
theorem ExF.below (h : ExF w b g F L W) (t : Below W.heap.size W W') : ExF w b g F L W' := ⟨h.q.below t, (t.block _ (lt_of_block h.f)).trans h.f⟩
theorem ExF.turn {M : List Cl} (h : ExF w b g F L W) (hp : PlAt W' b g 1 5 0 M) (t : Turn (At g) W W') : ExF w b g F M W' := by
  refine ⟨⟨hp, h.q.old.trans (t.at_below h.q.old.size h.q.lg), h.q.lb, h.q.lg⟩, (t.block _ (lt_of_block h.f) ?_).trans h.f⟩
  rintro e
  have e' : F = g := e
  subst e'
  obtain ⟨A, B, h1, h2⟩ := h.q.p.blocks
  rw [h.f] at h2; cases h2
theorem x_mark (h : ExF w b g F e2 W) : Calls Try.prog 46 #[.pointer (some ⟨b, 0, none⟩), .int .i64 0] W fun e W' => e = .returned (.bool true) ∧ ExF w b g F e3 W' :=
  (mark_any h.q.p 0 (bo_of_ok e2_ok)).mono fun e W' ⟨he, hp, ht⟩ => ⟨by rw [he, e_vals.2.2.2.2.1], h.turn hp ht⟩
theorem x_unmark (h : ExF w b g F e3 W) : Calls Try.prog 47 #[.pointer (some ⟨b, 0, none⟩)] W fun e W' => e = .returned (.int .i64 1) ∧ ExF w b g F e2 W' :=
  (unmark_any h.q.p (bo_of_ok e3_ok)).mono fun e W' ⟨he, hp, ht⟩ => ⟨by rw [he, e_vals.2.2.2.2.2.1]; rfl, h.turn (by rw [e_vals.2.2.2.2.2.2.1] at hp; exact hp) ht⟩
theorem x_fmt (h : ExF w b g F e2 W) : Calls Try.prog 11 #[.pointer (some ⟨b, 0, none⟩)] W fun e W' => e = .returned (.bool true) ∧ ExF w b g F e2 W' :=
  (formatted_any h.q.p).mono fun e W' ⟨he, hb⟩ => ⟨by rw [he, e_vals.2.2.2.2.2.2.2.1], h.below hb⟩
theorem x_before (h : ExF w b g F e2 W) : Calls Try.prog 23 #[.pointer (some ⟨b, 0, none⟩), .int .i64 3] W fun e W' => e = .returned (.int .i64 3) ∧ ExF w b g F e2 W' :=
  (before_any h.q.p 3).mono fun e W' ⟨he, hb⟩ => ⟨by rw [he, e_vals.2.2.2.2.2.2.2.2.1], h.below hb⟩
theorem x_after (h : ExF w b g F e2 W) : Calls Try.prog 24 #[.pointer (some ⟨b, 0, none⟩), .int .i64 3] W fun e W' => e = .returned (.int .i64 3) ∧ ExF w b g F e2 W' :=
  (after_any h.q.p 3).mono fun e W' ⟨he, hb⟩ => ⟨by rw [he, e_vals.2.2.2.2.2.2.2.2.2.1], h.below hb⟩
theorem x_open3 (h : ExF w b g F e2 W) : Calls Try.prog 26 #[.pointer (some ⟨b, 0, none⟩), .int .i64 3] W fun e W' => e = .returned (.bool false) ∧ ExF w b g F e2 W' :=
  (open_any h.q.p 3 (bo_of_ok e2_ok)).mono fun e W' ⟨he, hb⟩ => ⟨by rw [he, e_vals.2.2.2.2.2.2.2.2.2.2.1], h.below hb⟩
theorem x_open4 (h : ExF w b g F e2 W) : Calls Try.prog 26 #[.pointer (some ⟨b, 0, none⟩), .int .i64 4] W fun e W' => e = .returned (.bool true) ∧ ExF w b g F e2 W' :=
  (open_any h.q.p 4 (bo_of_ok e2_ok)).mono fun e W' ⟨he, hb⟩ => ⟨by rw [he, e_vals.2.2.2.2.2.2.2.2.2.2.2.1], h.below hb⟩
theorem x_home (h : ExF w b g F e2 W) : Calls Try.prog 12 #[.pointer (some ⟨b, 0, none⟩)] W fun e W' => e = .returned (.int .i64 4) ∧ ExF w b g F e2 W' :=
  (home_any h.q.p (bo_of_ok e2_ok)).mono fun e W' ⟨he, hb⟩ => ⟨by rw [he, e_vals.2.2.2.2.2.2.2.2.2.2.2.2], h.below hb⟩
theorem x_text (h : ExF w b g F e2 W) : Calls Try.prog 19 #[.pointer (some ⟨b, 0, none⟩), .int .i64 37, .agg #[.int .i64 3, .int .i64 4, .int .u8 0]] W fun e W' => e = .returned (.string ⟨#[65, 32, 32, 32]⟩) ∧ ExF w b g F e2 W' :=
  (ftext_any h.q.p e2_ok 37 eF (by decide +kernel) (by decide) (by decide +kernel) (by decide)).mono fun e W' ⟨he, hb⟩ => ⟨by rw [he, e_text], h.below hb⟩
theorem x_places (h : ExF w b g F e2 W) : Calls Try.prog 16 #[.pointer (some ⟨b, 0, none⟩), .agg #[.int .i64 3, .int .i64 4, .int .u8 0], .int .i64 9] W fun e W' => ∃ v, e = .returned v ∧ RowOf .i64 W' v [4, 0, 1, 2] ∧ ExF w b g F e2 W' :=
  (lplaces_any h.q.p eF 9 (by decide) (by decide)).mono fun e W' ⟨v, he, hr, _, hb⟩ => ⟨v, he, RowOf.of_owns (by rw [show (9 : Int).toNat = 9 from rfl, e_places.1] at hr; exact hr), h.below hb⟩
theorem x_data (h : ExF w b g F e2 W) : Calls Try.prog 18 #[.pointer (some ⟨b, 0, none⟩), .agg #[.int .i64 3, .int .i64 4, .int .u8 0]] W fun e W' => ∃ v, e = .returned v ∧ RowOf .u8 W' v [193, 0, 0, 0] ∧ ExF w b g F e2 W' :=
  (data_any h.q.p eF (by decide)).mono fun e W' ⟨v, he, hr, _, hb⟩ => ⟨v, he, RowOf.of_owns (by rw [e_data, e_places.2] at hr; exact hr), h.below hb⟩
theorem x_all (h : ExF w b g F e2 W) : Calls Try.prog 10 #[.pointer (some ⟨b, 0, none⟩), .int .i64 9] W fun e W' => ∃ a c, e = .returned (.slice a 1 c) ∧ ExF w b g F e2 W' :=
  (lall_any h.q.p (bo_of_ok e2_ok) 9 (by decide)).mono fun e W' ⟨v, he, hr, _, hb⟩ => by
    rw [show (9 : Int).toNat = 9 from rfl, e_all] at hr
    obtain ⟨g', cap', rfl⟩ := ownsRow_succ hr
    exact ⟨_, _, he, h.below hb⟩
end
end Go.Proofs.Ytgjhboikfbafcaa.Pl
