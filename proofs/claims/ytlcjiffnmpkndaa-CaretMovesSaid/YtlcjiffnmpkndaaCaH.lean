/-
  What the laws of caret hold: the plane, the document's, a row of numbers; and what comes next, plainly.
-/
import Derived.Test.YtlcjiffnmpkndaaCaF
import Derived.Test.YtlcjiffnmpkndaaCaG
import Derived.Test.YtlcjiffnmpkndaaCmP
namespace Go.Proofs.Ytlcjiffnmpkndaa.Pl
open Go.RowKit Go.Shelf Base
set_option linter.unusedVariables false
set_option linter.unusedSimpArgs false

theorem ops_bd {L : List Cl} : ∀ y ∈ opsL L, 0 ≤ y ∧ y < (L.length : Int) := fun y hy => (mem_ops.1 hy).1
theorem tab_step {L : List Cl} {j : Nat} {x y : Int} (hj : (opsL L)[j]? = some x) (hy : (opsL L)[(j + 1) % (opsL L).length]? = some y) : tabL L (mv L.length x 1) = mv L.length y 1 := by
  have hx := ops_bd x (List.mem_of_getElem? hj)
  have hb := mv_bd (n := L.length) (a := x) (b := 1) (by omega)
  rw [tab_eq hb.1 hb.2]
  exact next_step (opsL_pair L) ops_bd hj hy
theorem back_step {L : List Cl} {j : Nat} {x y : Int} (hj : (opsL L)[j]? = some x) (hy : (opsL L)[(j + ((opsL L).length - 1)) % (opsL L).length]? = some y) : backC L (mv L.length x 1) = mv L.length y 1 := by
  have hx := mem_ops.1 (List.mem_of_getElem? hj)
  obtain ⟨h1, h2, h3⟩ := good_st hx.2
  have hq := mv_bd (n := L.length) (a := mv L.length x 1) (b := -2) (by omega)
  unfold backC
  rw [bef_first h1 h3, if_neg (fun h => h.2.2 rfl), prev_eq hq.1 hq.2]
  exact prev_step (opsL_pair L) ops_bd hj hy
theorem tab_none {L : List Cl} (h : opsL L = []) (a : Int) (h0 : 0 ≤ a) (h1 : a < L.length) : tabL L a = 0 := by
  rw [tab_eq h0 h1, h]; rfl
theorem back_none {L : List Cl} (h : opsL L = []) (a : Int) (h0 : 1 ≤ L.length) : backC L a = 0 := by
  have hq := mv_bd (n := L.length) (a := a) (b := -2) (by omega)
  unfold backC
  rw [if_neg, prev_eq hq.1 hq.2, h]
  · rfl
  · rintro ⟨h1, h2, h3⟩
    have hr := ca_st (good_st h2).1
    have hm : befL L a ∈ opsL L := mem_ops.2 ⟨hr, h2⟩
    rw [h] at hm; cases hm
/-- What tab comes to is an open field's first place, if there is one. -/
theorem tab_some {L : List Cl} (h : opsL L ≠ []) {a : Int} (h0 : 0 ≤ a) (h1 : a < (L.length : Int)) : ∃ (j : Nat) (x : Int), (opsL L)[j]? = some x ∧ tabL L a = mv L.length x 1 := by
  rw [tab_eq h0 h1]
  unfold nextO
  cases hf : (opsL L).find? (fun o => decide (a ≤ o)) with
  | some o =>
    obtain ⟨j, hj, he⟩ := List.mem_iff_getElem.1 (List.mem_of_find?_eq_some hf)
    exact ⟨j, o, by rw [List.getElem?_eq_getElem hj, he], rfl⟩
  | none =>
    simp only
    cases ho : opsL L with
    | nil => exact absurd ho h
    | cons o os => exact ⟨0, o, rfl, rfl⟩
theorem opn_get {L : List Cl} {j : Nat} {x : Int} (hj : (opsL L)[j]? = some x) : opnL L (mv L.length x 1) = true := opn_first (mem_ops.1 (List.mem_of_getElem? hj)).2
theorem back_some {L : List Cl} (h : opsL L ≠ []) {a : Int} (hn : 1 ≤ L.length) : opnL L (backC L a) = true := by
  unfold backC
  split
  · next h1 => exact opn_first h1.2.1
  · have hq := mv_bd (n := L.length) (a := a) (b := -2) (by omega)
    rw [prev_eq hq.1 hq.2]
    unfold prevO
    cases hf : (opsL L).reverse.find? (fun o => decide (o ≤ mv L.length a (-2))) with
    | some o => exact opn_first (mem_ops.1 (List.mem_reverse.1 (List.mem_of_find?_eq_some hf))).2
    | none =>
      unfold headN
      cases ho : (opsL L).reverse with
      | nil => rw [List.reverse_eq_nil_iff] at ho; exact absurd ho h
      | cons o os => exact opn_first (mem_ops.1 (List.mem_reverse.1 (by rw [ho]; simp))).2
/-- The planes of a law. -/
structure CoQ (w : World) (b g : Nat) (r c cur : Int) (L : List Cl) (gx n : Nat) (W : World) : Prop where
  pl : PlAt W b g r c cur L
  rx : Rx W gx n n L
  lb : w.heap.size ≤ b
  lg : w.heap.size ≤ g
  ne : gx ≠ b ∧ gx ≠ g
  old : Below w.heap.size w W
/-- A row of numbers beside a plane. -/
structure RoQ (b g : Nat) (v : Value) (m : Nat) (xs : List Value) (W : World) : Prop where
  row : W.ownsRow 0 3 1 v m xs
  no : ∀ j, v.ownBlock = some j → j ≠ b ∧ j ≠ g
section
variable {w W W' : World} {b g : Nat} {r c cur x : Int} {L : List Cl} {gx n : Nat} {v : Value} {m : Nat} {xs : List Value}
theorem CoQ.below (h : CoQ w b g r c cur L gx n W) (t : Below W.heap.size W W') : CoQ w b g r c cur L gx n W' := ⟨h.pl.below t, h.rx.below t, h.lb, h.lg, h.ne, h.old.trans (t.mono h.old.size)⟩
theorem CoQ.go (h : CoQ w b g r c cur L gx n W) (hp : PlAt W' b g r c x L) (t : Turn (At b) W W') : CoQ w b g r c x L gx n W' :=
  ⟨hp, ⟨own_keep h.rx.row t.size (t.block gx h.rx.lt h.ne.1), h.rx.len, h.rx.most⟩, h.lb, h.lg, h.ne, h.old.trans (t.below h.old.size (fun k hk => by have := h.lb; unfold At at hk; omega))⟩
theorem CoQ.drew (h : CoQ w b g r c cur L gx n W) : CoQ w b g r c cur L gx n W.drew := h.below ⟨rfl, rfl, rfl, Nat.le_refl _, fun _ _ => rfl⟩
theorem RoQ.below (h : RoQ b g v m xs W) (t : Below W.heap.size W W') : RoQ b g v m xs W' := ⟨row_turn h.row (S := fun _ => False) (Turn.of_below t) (fun _ _ => id), h.no⟩
theorem RoQ.go (h : RoQ b g v m xs W) (t : Turn (At b) W W') : RoQ b g v m xs W' := ⟨row_turn h.row t (fun j hj => (h.no j hj).1), h.no⟩
theorem RoQ.get {gr cap : Nat} (h : RoQ b g (.slice (some ⟨gr, 0, none⟩) m cap) m xs W) {i : Nat} {u : Value} (hm : xs.length = m) (hu : xs[i]? = some u) : W.cell? ⟨gr, i, none⟩ = some u := by
  have hi : i < m := by rw [← hm]; exact (List.getElem?_eq_some_iff.1 hu).1
  exact (h.row.cellAt i (show i < m * 1 by omega)).trans hu
end
theorem intsV_get {X : List Int} {i : Nat} {x : Int} (h : X[i]? = some x) : (intsV X)[i]? = some (.int .i64 x) := by unfold intsV; rw [List.getElem?_map, h]; rfl
theorem intsV_len (X : List Int) : (intsV X).length = X.length := by unfold intsV; simp
theorem ca_and (yb : Int) (h0 : 0 ≤ yb) (h1 : yb ≤ 255) : (bits .and .u8 yb 48 != 48) = !(Attr.prot yb && Attr.nume yb) := Attr.byte_fin (p := fun b => (bits .and .u8 b 48 != 48) = !(Attr.prot b && Attr.nume b)) (by decide +kernel) yb h0 h1
end Go.Proofs.Ytlcjiffnmpkndaa.Pl
