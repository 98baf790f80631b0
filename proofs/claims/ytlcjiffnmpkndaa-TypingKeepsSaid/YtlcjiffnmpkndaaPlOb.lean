/-
  The laws' planes: one and the document's, made of cells.
-/
import Derived.Test.YtlcjiffnmpkndaaPlN

namespace Go.Proofs.Ytlcjiffnmpkndaa.Pl
open Go.RowKit Go.Shelf Base
set_option linter.unusedVariables false
set_option linter.unusedSimpArgs false

theorem own_below {W W' : World} {base : Nat} {e : TypeId} {k n : Nat} {v : Value} {xs : List Value} (h : W.ownsRow base e k v n xs) (t : Below W.heap.size W W') : W'.ownsRow base e k v n xs :=
  h.kept (row := none) (grown_of_below t) (by
    rcases h.2 with ⟨rfl, _⟩ | ⟨g, cap, cur, rfl, _⟩
    · exact .inl rfl
    · exact .inr (by simp [Value.ownBlock]))
/-- A row of cells in memory. -/
def ClsAt (w : World) (v : Value) (L : List Cl) : Prop :=
  ∃ a cap, v = .slice a L.length cap ∧ (L ≠ [] → ∃ g off, a = some ⟨g, off, none⟩ ∧ g < w.heap.size ∧ ∀ (i : Nat) (x : Cl), L[i]? = some x → C5 w g (off + i * 5) x)
theorem ClsAt.below {w W : World} {v : Value} {L : List Cl} (h : ClsAt w v L) (t : Below w.heap.size w W) : ClsAt W v L := by
  obtain ⟨a, cap, rfl, h⟩ := h
  refine ⟨a, cap, rfl, fun hne => ?_⟩
  obtain ⟨g, off, rfl, hg, hc⟩ := h hne
  exact ⟨g, off, rfl, Nat.lt_of_lt_of_le hg t.size, fun i x hx => by
    obtain ⟨a0, a1, a2, a3, a4⟩ := hc i x hx
    exact ⟨cell_later t a0, cell_later t a1, cell_later t a2, cell_later t a3, cell_later t a4⟩⟩
/-- A plane's cells behind k rounds of the making. -/
def mL (n : Nat) (L : List Cl) (k : Nat) : List Cl := (List.range n).map fun i => if i < k then (L[i]?).getD c0 else c0
theorem mL_length (n : Nat) (L : List Cl) (k : Nat) : (mL n L k).length = n := by simp [mL]
theorem mL_zero (n : Nat) (L : List Cl) : mL n L 0 = List.replicate n c0 := by
  apply List.ext_getElem?
  intro i
  simp [mL, List.getElem?_map, List.getElem?_range', List.getElem?_replicate]
  by_cases h : i < n <;> simp [h]
theorem mL_step (n : Nat) (L : List Cl) (k : Nat) (x : Cl) (hk : k < n) (hx : L[k]? = some x) : setL (mL n L k) k x = mL n L (k + 1) := by
  unfold setL
  rw [if_pos (by rw [mL_length]; omega)]
  apply List.ext_getElem?
  intro i
  simp only [Int.toNat_natCast, List.getElem?_set, mL_length]
  by_cases h : k = i
  · subst h; rw [if_pos rfl, if_pos hk]; simp [mL, List.getElem?_range, hk, hx]
  · rw [if_neg h]
    by_cases hi : i < n
    · simp only [mL, List.getElem?_map, List.getElem?_range hi, Option.map_some]
      by_cases h1 : i < k
      · rw [if_pos h1, if_pos (by omega)]
      · rw [if_neg h1, if_neg (by omega)]
    · rw [List.getElem?_eq_none (by rw [mL_length]; omega), List.getElem?_eq_none (by rw [mL_length]; omega)]
theorem mL_over (n : Nat) (L : List Cl) (k : Nat) (hk : n ≤ k) : mL n L k = mL n L (k + 1) := by
  unfold mL
  apply List.map_congr_left
  intro i hi
  have := List.mem_range.1 hi
  rw [if_pos (by omega), if_pos (by omega)]
theorem mL_ok (n : Nat) {L : List Cl} (h : ∀ x ∈ L, x.Ok) (k : Nat) : ∀ x ∈ mL n L k, x.Ok := by
  intro x hx
  obtain ⟨i, _, rfl⟩ := List.mem_map.1 hx
  split
  · cases hl : L[i]? with
    | none => exact c0_ok
    | some y => exact h y (List.mem_of_getElem? hl)
  · exact c0_ok
/-- What the making holds: its result's block, the document's plane, its cells, the plane. -/
structure MR (s q : Nat) (w : World) (r c : Int) (b g gx n : Nat) (L : List Cl) (W : World) : Prop where
  res : W.heap[s + 1]? = some (.cells #[.int .i64 0, .int .i64 0, .slice none 0 0, .int .i64 0] 29 (0, 0))
  var : W.heap[q]? = some (.cells #[.int .i64 r, .int .i64 c, .slice (some ⟨gx, 0, none⟩) n n, .int .i64 0] 29 (0, 0))
  pl : PlAt W b g r c 0 L
  row : W.ownsRow 0 58 5 (.slice (some ⟨gx, 0, none⟩) n n) n (flatC L)
  len : L.length = n
  lt : s + 1 < b ∧ s + 1 < g ∧ b < gx ∧ g < gx ∧ gx < q
  old : Below s w W
section
variable {s q : Nat} {w W W' : World} {r c : Int} {b g gx n : Nat} {L : List Cl}
theorem MR.below (h : MR s q w r c b g gx n L W) (hs : s ≤ W.heap.size) (t : Below W.heap.size W W') : MR s q w r c b g gx n L W' :=
  ⟨(t.block _ (lt_of_block h.res)).trans h.res, (t.block _ (lt_of_block h.var)).trans h.var, h.pl.below t, own_below h.row t, h.len, h.lt, h.old.trans (t.mono hs)⟩
theorem MR.size (h : MR s q w r c b g gx n L W) : s + 2 ≤ W.heap.size ∧ q < W.heap.size := ⟨by have := lt_of_block h.res; omega, lt_of_block h.var⟩
theorem MR.cells (h : MR s q w r c b g gx n L W) : W.cell? ⟨q, 2, none⟩ = some (.slice (some ⟨gx, 0, none⟩) n n) := (blk4 h.var).2.2.1
/-- Behind Set of one place, and behind the store in the document's row. -/
theorem MR.set (h : MR s q w r c b g gx n L W) (k : Nat) (x : Cl) (hk : k < n) (hp : PlAt W' b g r c 0 (setL L k x)) (t : Turn (At g) W W') :
    MR s q w r c b g gx n (setL L k x) (((((W'.setCell ⟨gx, k * 5, none⟩ (.int .u8 x.b)).setCell ⟨gx, k * 5 + 1, none⟩ (.bool x.ge)).setCell ⟨gx, k * 5 + 2, none⟩ (.bool x.st)).setCell ⟨gx, k * 5 + 3, none⟩ (.int .u8 x.li)).setCell ⟨gx, k * 5 + 4, none⟩ (.int .u8 x.co)) := by
  obtain ⟨l1, l2, l3, l4, l5⟩ := h.lt
  have hz := h.size
  have t5 := turn5 W' gx (k * 5) (k * 5 + 1) (k * 5 + 2) (k * 5 + 3) (k * 5 + 4) (.int .u8 x.b) (.bool x.ge) (.bool x.st) (.int .u8 x.li) (.int .u8 x.co)
  have hr := own_keep h.row t.size (t.block _ (h.row.lt gx rfl).2 (by show gx ≠ g; omega))
  have s1 := (hr.stored (k * 5) (.int .u8 x.b)).1
  have s2 := (s1.stored (k * 5 + 1) (.bool x.ge)).1
  have s3 := (s2.stored (k * 5 + 2) (.bool x.st)).1
  have s4 := (s3.stored (k * 5 + 3) (.int .u8 x.li)).1
  have s5 := (s4.stored (k * 5 + 4) (.int .u8 x.co)).1
  rw [flatC_set] at s5
  have hsl : setL L k x = L.set k x := by unfold setL; rw [if_pos (by rw [h.len]; omega)]; rfl
  refine ⟨?_, ?_, hp.turn t5 (by show b ≠ gx; omega) (by show g ≠ gx; omega), by rw [hsl]; exact s5, by rw [setL_length]; exact h.len, h.lt, ?_⟩
  · rw [t5.block _ (by have := t.size; omega) (by show s + 1 ≠ gx; omega), t.block _ (by omega) (by show s + 1 ≠ g; omega)]; exact h.res
  · rw [t5.block _ (by have := t.size; omega) (by show q ≠ gx; omega), t.block _ (by omega) (by show q ≠ g; omega)]; exact h.var
  · exact (h.old.trans (t.at_below (by omega) (by omega))).trans (t5.at_below (by have := t.size; omega) (by omega))
end
end Go.Proofs.Ytlcjiffnmpkndaa.Pl
