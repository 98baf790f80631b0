/-
  Rows of orders that can be read; are two of them the same?
-/
import Derived.Test.YtmmgebiojpnhcaaDoorOrdL
namespace Go.Proofs.YtmmgebiojpnhcaaDoor.Ord
open Go.RowKit Base
set_option linter.unusedVariables false
set_option linter.unusedSimpArgs false

instance : DecidableEq Or := fun a b => decidable_of_iff _ (sameO_eq a b)
/-- The cells of an order. -/
abbrev OC (g f : Nat) (o : Or) (vp vd : Value) (W : World) : Prop := W.cell? ⟨g, f, none⟩ = some (.int .u8 o.kind) ∧ W.cell? ⟨g, f + 1, none⟩ = some (.int .i64 o.addr) ∧ W.cell? ⟨g, f + 2, none⟩ = some (.int .u8 o.byte) ∧ W.cell? ⟨g, f + 3, none⟩ = some (.bool o.ge) ∧ W.cell? ⟨g, f + 4, none⟩ = some vp ∧ W.cell? ⟨g, f + 5, none⟩ = some vd
/-- A row of orders that can be read. -/
def OrdsAt (w : World) (v : Value) (L : List Or) : Prop :=
  ∃ a cap, v = .slice a L.length cap ∧ (L ≠ [] → ∃ g off, a = some ⟨g, off, none⟩ ∧ g < w.heap.size ∧ ∀ i o, L[i]? = some o → ∃ vp vd, OC g (off + i * 6) o vp vd w ∧ PrAt w vp o.pairs ∧ RowOf .u8 w vd o.data)
theorem OC.below {g f : Nat} {o : Or} {vp vd : Value} {w w' : World} (h : OC g f o vp vd w) (t : Below w.heap.size w w') : OC g f o vp vd w' := by
  obtain ⟨h0, h1, h2, h3, h4, h5⟩ := h
  have hl := World.block_lt_of_cell? w ⟨g, f, none⟩ h0
  exact ⟨(cell_block (t.block g hl) _).trans h0, (cell_block (t.block g hl) _).trans h1, (cell_block (t.block g hl) _).trans h2, (cell_block (t.block g hl) _).trans h3, (cell_block (t.block g hl) _).trans h4, (cell_block (t.block g hl) _).trans h5⟩
section
variable {w w' : World} {v u : Value} {L M : List Or}
theorem OrdsAt.below (h : OrdsAt w v L) (t : Below w.heap.size w w') : OrdsAt w' v L := by
  obtain ⟨a, cap, rfl, hr⟩ := h
  refine ⟨a, cap, rfl, fun hne => ?_⟩
  obtain ⟨g, off, rfl, hg, hi⟩ := hr hne
  refine ⟨g, off, rfl, Nat.lt_of_lt_of_le hg t.size, fun i o ho => ?_⟩
  obtain ⟨vp, vd, h1, h2, h3⟩ := hi i o ho
  exact ⟨vp, vd, OC.below h1 t, h2.below t, h3.below t⟩
theorem ordC_get : ∀ (P : List OrdP) (i : Nat) (p : OrdP), P[i]? = some p → (ordC P)[i * 6]? = some (.int .u8 p.1.kind) ∧ (ordC P)[i * 6 + 1]? = some (.int .i64 p.1.addr) ∧ (ordC P)[i * 6 + 2]? = some (.int .u8 p.1.byte) ∧ (ordC P)[i * 6 + 3]? = some (.bool p.1.ge) ∧ (ordC P)[i * 6 + 4]? = some p.2.1 ∧ (ordC P)[i * 6 + 5]? = some p.2.2
  | [], i, p, h => by simp at h
  | q :: P, 0, p, h => by
    obtain rfl : q = p := by simpa using h
    exact ⟨rfl, rfl, rfl, rfl, rfl, rfl⟩
  | q :: P, i + 1, p, h => by
    have := ordC_get P i p (by simpa using h)
    rw [show (i + 1) * 6 = i * 6 + 1 + 1 + 1 + 1 + 1 + 1 by omega]
    exact this
theorem own_cell {e : TypeId} {k n s g : Nat} {cap : Nat} {xs : List Value} (h : w.ownsRow s e k (.slice (some ⟨g, 0, none⟩) n cap) n xs) (j : Nat) (x : Value) (hx : xs[j]? = some x) : w.cell? ⟨g, j, none⟩ = some x := by
  have c := World.ownsRow.cells h (g := g) rfl j _ hx
  by_cases hj : j = 0
  · subst hj; simpa [Addr.add] using c
  · simpa [Addr.add, hj] using c
theorem OrdsOwn.at {s : Nat} {P : List OrdP} (h : OrdsOwn s w v P) : OrdsAt w v (P.map (·.1)) := by
  rcases h.row.2 with ⟨rfl, hn⟩ | ⟨g, cap, cur, rfl, hg, hgb, hrest⟩
  · have : P = [] := List.eq_nil_of_length_eq_zero hn
    subst this
    exact ⟨none, 0, rfl, fun h => absurd rfl h⟩
  · refine ⟨some ⟨g, 0, none⟩, cap, by rw [List.length_map], fun hne => ⟨g, 0, rfl, lt_of_block hgb, fun i o ho => ?_⟩⟩
    rw [List.getElem?_map] at ho
    cases hp : P[i]? with
    | none => rw [hp] at ho; cases ho
    | some p =>
      rw [hp] at ho
      obtain rfl : p.1 = o := by simpa using ho
      obtain ⟨f0, f1, f2, f3, f4, f5⟩ := ordC_get P i p hp
      obtain ⟨hpp, hpd⟩ := h.own p (List.mem_of_getElem? hp)
      refine ⟨p.2.1, p.2.2, ?_, hpp.at, hpd.row⟩
      rw [show (0 : Nat) + i * 6 = i * 6 from Nat.zero_add _]
      exact ⟨own_cell h.row _ _ f0, own_cell h.row _ _ f1, own_cell h.row _ _ f2, own_cell h.row _ _ f3, own_cell h.row _ _ f4, own_cell h.row _ _ f5⟩
end
end Go.Proofs.YtmmgebiojpnhcaaDoor.Ord
