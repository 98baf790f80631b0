/-
  The statements' own example of plane: its values, plainly.
-/
import Derived.Test.YtkkcdahfiegopaaDoorPlKA
namespace Go.Proofs.YtkkcdahfiegopaaDoor.Pl
open Go.RowKit Go.Shelf Base
set_option linter.unusedVariables false
set_option linter.unusedSimpArgs false

def xA : Cl := ⟨193, false, false, 0, 0⟩
def xB : Cl := ⟨194, true, false, 0, 0⟩
def al0 : List Cl := List.replicate 6 c0
def al1 : List Cl := fillL al0 (betw 6 5 1) xA
def al2 : List Cl := setL al1 1 xB
theorem al_cells : cells 2 3 = ((6 : Nat) : Int) ∧ cells 0 0 = 0 := by decide
theorem al_fill : (betw 6 5 1).length = 2 := by decide +kernel
theorem al1_eq : al1 = [xA, c0, c0, c0, c0, xA] := by decide +kernel
theorem al2_eq : al2 = [xA, xB, c0, c0, c0, xA] := by decide +kernel
theorem al_rows : rowsL 37 al1 3 2 = [.string ⟨#[65, 32, 32]⟩, .string ⟨#[32, 32, 65]⟩] := by
  have e1 : textL 37 al1 ((0 : Nat) * 3) 3 = [65, 32, 32] := by decide +kernel
  have e2 : textL 37 al1 ((1 : Nat) * 3) 3 = [32, 32, 65] := by decide +kernel
  show [strV (textL 37 al1 ((0 : Nat) * 3) 3), strV (textL 37 al1 ((1 : Nat) * 3) 3)] = _
  rw [e1, e2]; rfl
theorem al_find : findL 37 al2 [65, 65] = 5 := by decide +kernel
theorem al_same : sameP 2 3 4 2 3 0 al2 al1 = false := by decide +kernel
theorem al_text : textL 37 al1 5 2 = [65, 65] := by decide +kernel
theorem al_ok0 : OkL al0 := by intro x hx; rw [List.eq_of_mem_replicate hx]; exact c0_ok
theorem al_ok1 : OkL al1 := by
  rw [al1_eq]; intro x hx
  simp at hx
  rcases hx with rfl | rfl | rfl <;> simp [Cl.Ok, xA, c0]
theorem al_ok2 : OkL al2 := by
  rw [al2_eq]; intro x hx
  simp at hx
  rcases hx with rfl | rfl | rfl | rfl <;> simp [Cl.Ok, xA, xB, c0]
theorem al_at : atL al1 5 = xA ∧ atL (List.replicate 6 c0) 5 = c0 := by decide +kernel
theorem al_has : hasL al1 1 = true ∧ hasL al2 4 = true ∧ hasL al2 6 = false := by decide +kernel
theorem cell_turned {S : Nat → Prop} {W W' : World} {k o : Nat} {v : Value} (t : Turn S W W') (hk : ¬ S k) (h : W.cell? ⟨k, o, none⟩ = some v) : W'.cell? ⟨k, o, none⟩ = some v := by
  have hb := t.block k (World.block_lt_of_cell? W ⟨k, o, none⟩ h) hk
  unfold World.cell? at h ⊢
  simp only [hb]
  exact h
/-- What the example holds ahead of its last line: the plane that was cleared, the clone, the rows. -/
structure AQ (w : World) (b g b2 g2 rg : Nat) (W : World) : Prop where
  p : PlAt W b g 2 3 0 (List.replicate 6 c0)
  q : PlAt W b2 g2 2 3 0 al1
  r0 : W.cell? ⟨rg, 0, none⟩ = some (.string ⟨#[65, 32, 32]⟩)
  r1 : W.cell? ⟨rg, 1, none⟩ = some (.string ⟨#[32, 32, 65]⟩)
  old : Below w.heap.size w W
section
variable {w W W' : World} {b g b2 g2 rg : Nat}
theorem AQ.below (h : AQ w b g b2 g2 rg W) (t : Below W.heap.size W W') : AQ w b g b2 g2 rg W' :=
  ⟨h.p.below t, h.q.below t, (t.cell (World.block_lt_of_cell? W ⟨rg, 0, none⟩ h.r0)).trans h.r0, (t.cell (World.block_lt_of_cell? W ⟨rg, 1, none⟩ h.r1)).trans h.r1, h.old.trans (t.mono h.old.size)⟩
theorem AQ.drew (h : AQ w b g b2 g2 rg W) : AQ w b g b2 g2 rg W.drew := ⟨h.p.drew, h.q.drew, h.r0, h.r1, below_drew h.old⟩
theorem AQ.of_s (h : W.cell? ⟨rg, 0, none⟩ = some (.string ⟨#[65, 32, 32]⟩) ∧ W.cell? ⟨rg, 1, none⟩ = some (.string ⟨#[32, 32, 65]⟩) ∧ AQ w b g b2 g2 rg W) : AQ w b g b2 g2 rg W := h.2.2
theorem AQ.s (h : AQ w b g b2 g2 rg W) : W.cell? ⟨rg, 0, none⟩ = some (.string ⟨#[65, 32, 32]⟩) ∧ W.cell? ⟨rg, 1, none⟩ = some (.string ⟨#[32, 32, 65]⟩) ∧ AQ w b g b2 g2 rg W := ⟨h.r0, h.r1, h⟩
theorem aq_cur_q (h : AQ w b g b2 g2 rg W) : Calls Tryd.prog 29 #[.pointer (some ⟨b2, 0, none⟩)] W fun e W' => e = .returned (.int .i64 0) ∧ W = W' := cursor_any h.q
theorem aq_cur_p (h : AQ w b g b2 g2 rg W) : Calls Tryd.prog 29 #[.pointer (some ⟨b, 0, none⟩)] W fun e W' => e = .returned (.int .i64 0) ∧ W = W' := cursor_any h.p
theorem aq_len (h : AQ w b g b2 g2 rg W) : Calls Tryd.prog 20 #[.pointer (some ⟨b, 0, none⟩)] W fun e W' => e = .returned (.int .i64 6) ∧ W = W' := len_any h.p
theorem aq_size (h : AQ w b g b2 g2 rg W) : Calls Tryd.prog 30 #[.pointer (some ⟨b, 0, none⟩)] W fun e W' => e = .returned (.agg #[.int .i64 2, .int .i64 3]) ∧ AQ w b g b2 g2 rg W' := (size_any h.p).mono fun _ _ ⟨he, hb⟩ => ⟨he, h.below hb⟩
theorem aq_at_p (h : AQ w b g b2 g2 rg W) : Calls Tryd.prog 19 #[.pointer (some ⟨b, 0, none⟩), .int .i64 5] W fun e W' => e = .returned (.agg #[.int .u8 0, .bool false, .bool false, .int .u8 0, .int .u8 0]) ∧ AQ w b g b2 g2 rg W' := (at_any h.p 5).mono fun _ _ ⟨he, hb⟩ => ⟨by rw [he, al_at.2]; rfl, h.below hb⟩
theorem aq_at_q (h : AQ w b g b2 g2 rg W) : Calls Tryd.prog 19 #[.pointer (some ⟨b2, 0, none⟩), .int .i64 5] W fun e W' => e = .returned (.agg #[.int .u8 193, .bool false, .bool false, .int .u8 0, .int .u8 0]) ∧ AQ w b g b2 g2 rg W' := (at_any h.q 5).mono fun _ _ ⟨he, hb⟩ => ⟨by rw [he, al_at.1]; rfl, h.below hb⟩
theorem aq_text (h : AQ w b g b2 g2 rg W) : Calls Tryd.prog 24 #[.pointer (some ⟨b2, 0, none⟩), .int .i64 37, .int .i64 5, .int .i64 2] W fun e W' => e = .returned (.string ⟨#[65, 65]⟩) ∧ AQ w b g b2 g2 rg W' := (text_any h.q al_ok1 37 5 2).mono fun _ _ ⟨he, hb⟩ => ⟨by rw [he, al_text], h.below hb⟩
end
theorem row2 {W : World} {base : Nat} {v x y : Value} (h : W.ownsRow base 9 1 v 2 [x, y]) : ∃ rg cap, v = .slice (some ⟨rg, 0, none⟩) 2 cap ∧ W.cell? ⟨rg, 0, none⟩ = some x ∧ W.cell? ⟨rg, 1, none⟩ = some y ∧ rg < W.heap.size ∧ base ≤ rg := by
  obtain ⟨rg, cap, rfl, hb⟩ := own_some h (by omega)
  exact ⟨rg, cap, rfl, h.cellAt 0 (by omega), h.cellAt 1 (by omega), (h.lt rg rfl).2, hb⟩
end Go.Proofs.YtkkcdahfiegopaaDoor.Pl
