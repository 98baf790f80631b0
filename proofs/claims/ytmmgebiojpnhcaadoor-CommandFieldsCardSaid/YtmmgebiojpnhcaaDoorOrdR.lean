/-
  The law's joined.
-/
import Derived.Test.YtmmgebiojpnhcaaDoorOrdQ
import Derived.Test.YtmmgebiojpnhcaaDoorRefA
import Derived.Laws.OwnMore
import Derived.Deep.CutBlock
namespace Go.Proofs.YtmmgebiojpnhcaaDoor.Ord
open Go.RowKit Base Iac
set_option linter.unusedVariables false
set_option linter.unusedSimpArgs false

/-- A row of pairs below a place. -/
def PrLow (s : Nat) (w : World) (v : Value) (ps : List (Int × Int)) : Prop :=
  ∃ a cap, v = .slice a ps.length cap ∧ (ps ≠ [] → ∃ g off, a = some ⟨g, off, none⟩ ∧ g < s ∧ ∀ i p, ps[i]? = some p → w.cell? ⟨g, off + i * 2, none⟩ = some (.int .u8 p.1) ∧ w.cell? ⟨g, off + i * 2 + 1, none⟩ = some (.int .u8 p.2))
/-- A row of bytes below a place, or one of the call's own. -/
def RowB (s : Nat) (w : World) (u : Value) (L : List Int) : Prop := RowIn (fun k => k < s) .u8 w u L ∨ OwnBytes s w u L
section
variable {s : Nat} {w w' : World} {v u : Value} {ps : List (Int × Int)} {L : List Int}
theorem PrAt.low (h : PrAt w v ps) : PrLow w.heap.size w v ps := by
  obtain ⟨a, cap, rfl, hr⟩ := h
  refine ⟨a, cap, rfl, fun hne => ?_⟩
  obtain ⟨g, off, rfl, hi⟩ := hr hne
  obtain ⟨p, hp⟩ : ∃ p, ps[0]? = some p := by
    cases ps with
    | nil => exact absurd rfl hne
    | cons p ps => exact ⟨p, rfl⟩
  exact ⟨g, off, rfl, World.block_lt_of_cell? w ⟨g, _, none⟩ (hi 0 p hp).1, hi⟩
theorem PrLow.at (h : PrLow s w v ps) : PrAt w v ps := by
  obtain ⟨a, cap, rfl, hr⟩ := h
  refine ⟨a, cap, rfl, fun hne => ?_⟩
  obtain ⟨g, off, rfl, _, hi⟩ := hr hne
  exact ⟨g, off, rfl, hi⟩
theorem PrLow.keep (h : PrLow s w v ps) (hk : ∀ g, g < s → g < w.heap.size → w'.heap[g]? = w.heap[g]?) : PrLow s w' v ps := by
  obtain ⟨a, cap, rfl, hr⟩ := h
  refine ⟨a, cap, rfl, fun hne => ?_⟩
  obtain ⟨g, off, rfl, hg, hi⟩ := hr hne
  exact ⟨g, off, rfl, hg, fun i p hp => ⟨(cell_block (hk g hg (World.block_lt_of_cell? w ⟨g, _, none⟩ (hi i p hp).1)) _).trans (hi i p hp).1, (cell_block (hk g hg (World.block_lt_of_cell? w ⟨g, _, none⟩ (hi i p hp).1)) _).trans (hi i p hp).2⟩⟩
theorem PrLow.form (h : PrLow s w v ps) : ∃ a c, v = .slice a ps.length c := by
  obtain ⟨a, c, rfl, _⟩ := h
  exact ⟨a, c, rfl⟩
theorem RowB.row (h : RowB s w u L) : RowOf .u8 w u L := h.elim (fun h => h.row) (fun h => h.row)
theorem RowB.form (h : RowB s w u L) : ∃ a c, u = .slice a L.length c := by
  rcases h with ⟨a, c, rfl, _⟩ | h
  · exact ⟨a, c, rfl⟩
  · exact h.slice
theorem RowB.keep (h : RowB s w u L) (h1 : ∀ g, g < s → g < w.heap.size → w'.heap[g]? = w.heap[g]?) (h2 : OwnBytes s w u L → ∀ g, u.ownBlock = some g → g < w.heap.size → w'.heap[g]? = w.heap[g]?) (hsz : w.heap.size ≤ w'.heap.size) : RowB s w' u L := by
  rcases h with ⟨a, c, rfl, hr⟩ | h
  · refine .inl ⟨a, c, rfl, fun hne => ?_⟩
    obtain ⟨g, off, rfl, hg, hl, hi⟩ := hr hne
    exact ⟨g, off, rfl, hg, Nat.lt_of_lt_of_le hl hsz, fun i h => (cell_block (h1 g hg hl) _).trans (hi i h)⟩
  · exact .inr (own_keep h fun g e _ hl => h2 h g e hl)
end
structure JQ (s : Nat) (w : World) (v : Value) (P : List OrdP) : Prop where
  row : w.ownsRow s 92 6 v P.length (ordC P)
  own : ∀ p ∈ P, PrLow s w p.2.1 p.1.pairs ∧ RowB s w p.2.2 p.1.data
section
variable {s : Nat} {w w' : World} {v : Value} {P : List OrdP}
/-- All but the row's own block stands. -/
theorem JQ.rest (h : JQ s w v P) (ho : ∀ k, k < w.heap.size → v.ownBlock ≠ some k → w'.heap[k]? = w.heap[k]?) (hsz : w.heap.size ≤ w'.heap.size) : ∀ p ∈ P, PrLow s w' p.2.1 p.1.pairs ∧ RowB s w' p.2.2 p.1.data := by
  have hlow : ∀ k, k < s → k < w.heap.size → w'.heap[k]? = w.heap[k]? := fun k hk hl => ho k hl fun e => by have := row_first h.row k e; omega
  intro p hp
  obtain ⟨h1, h2⟩ := h.own p hp
  exact ⟨h1.keep hlow, h2.keep hlow (fun hb g e hl => ho g hl fun e2 => ord_ne (by decide) h.row hb g e2 e) hsz⟩
theorem JQ.below (h : JQ s w v P) (t : Below w.heap.size w w') : JQ s w' v P :=
  ⟨own_keep h.row fun g _ _ hl => t.block g hl, h.rest (fun k hl _ => t.block k hl) t.size⟩
theorem JQ.form (h : JQ s w v P) : ∃ a cap, v = .slice a P.length cap := by
  rcases h.row.2 with ⟨rfl, h0⟩ | ⟨g, cap, cur, rfl, _⟩
  · exact ⟨none, 0, by rw [h0]⟩
  · exact ⟨_, _, rfl⟩
theorem JQ.grown {w1 : World} {v' vp vd : Value} {q : Or} {o : Obj} (h : JQ s w v P) (hp : PrLow s w vp q.pairs) (hd : RowIn (fun k => k < s) .u8 w vd q.data) (hown : w1.ownsRow s 92 6 v' (P.length + 1) (ordC P ++ [.int .u8 q.kind, .int .i64 q.addr, .int .u8 q.byte, .bool q.ge, vp, vd])) (hg : (w.alloc o).grownBy w1 v.ownBlock) : JQ s w1 v' (P ++ [(q, vp, vd)]) := by
  have ho : ∀ k, k < w.heap.size → v.ownBlock ≠ some k → w1.heap[k]? = w.heap[k]? := fun k hk hne => (hg.block k (by rw [World.size_alloc]; omega) fun e => hne e.symm).trans (Below.heap_alloc _ _ _ hk)
  have hsz : w.heap.size ≤ w1.heap.size := Nat.le_trans (by rw [World.size_alloc]; omega) hg.size
  have hlow : ∀ k, k < s → k < w.heap.size → w1.heap[k]? = w.heap[k]? := fun k hk hl => ho k hl fun e => by have := row_first h.row k e; omega
  refine ⟨by rw [List.length_append, ordC_append]; exact hown, fun p hpm => ?_⟩
  rcases List.mem_append.1 hpm with hpm | hpm
  · exact h.rest ho hsz p hpm
  · rw [List.mem_singleton.1 hpm]
    refine ⟨hp.keep hlow, .inl ?_⟩
    obtain ⟨a, c, rfl, hr⟩ := hd
    refine ⟨a, c, rfl, fun hne => ?_⟩
    obtain ⟨g, off, rfl, hg2, hl, hi⟩ := hr hne
    exact ⟨g, off, rfl, hg2, Nat.lt_of_lt_of_le hl hsz, fun i h => (cell_block (hlow g hg2 hl) _).trans (hi i h)⟩
/-- The last one's data turned. -/
theorem ordC_set (Q : List OrdP) (q : Or) (vp u u' : Value) (D : List Int) : (ordC (Q ++ [(q, vp, u)])).set (Q.length * 6 + 5) u' = ordC (Q ++ [({ q with data := D }, vp, u')]) := by
  have hlen : ∀ (P : List OrdP), (ordC P).length = P.length * 6 := by
    intro P
    induction P with
    | nil => rfl
    | cons p R ih => simp [ordC, List.flatMap_cons] at ih ⊢; omega
  rw [ordC_append, ordC_append, List.set_append, if_neg (by rw [hlen]; omega), hlen]
  simp [ordC]
theorem JQ.last {Q : List OrdP} {q : Or} {vp u u' : Value} {D : List Int} {g cap : Nat} (h : JQ s w (.slice (some ⟨g, 0, none⟩) (Q.length + 1) cap) (Q ++ [(q, vp, u)])) (hn : OwnBytes s w u' D) : JQ s (w.setCell ⟨g, Q.length * 6 + 5, none⟩ u') (.slice (some ⟨g, 0, none⟩) (Q.length + 1) cap) (Q ++ [({ q with data := D }, vp, u')]) := by
  have hrow := h.row
  rw [List.length_append, List.length_singleton] at hrow
  obtain ⟨hrow2, _⟩ := hrow.stored (Q.length * 6 + 5) u'
  rw [ordC_set Q q vp u u' D] at hrow2
  have ho : ∀ k, k < w.heap.size → (Value.slice (some ⟨g, 0, none⟩) (Q.length + 1) cap).ownBlock ≠ some k → (w.setCell ⟨g, Q.length * 6 + 5, none⟩ u').heap[k]? = w.heap[k]? := fun k _ hne => Below.heap_setCell _ _ _ _ (fun e => hne (by have : k = g := e; rw [this]; rfl))
  have hr := h.rest ho (by simp)
  refine ⟨by rw [List.length_append, List.length_singleton]; exact hrow2, fun p hp => ?_⟩
  rcases List.mem_append.1 hp with hp | hp
  · exact hr p (by simp [hp])
  · rw [List.mem_singleton.1 hp]
    refine ⟨(hr (q, vp, u) (by simp)).1, .inr ?_⟩
    exact own_keep hn fun k e _ hl => ho k hl fun e2 => ord_ne (by decide) hrow hn k e2 e
theorem JQ.at (h : JQ s w v P) : OrdsAt w v (P.map (·.1)) := by
  rcases h.row.2 with ⟨rfl, hn⟩ | ⟨g, cap, cur, rfl, hg, hgb, hrest⟩
  · have : P = [] := List.eq_nil_of_length_eq_zero hn
    subst this
    exact ⟨none, 0, rfl, fun h => absurd rfl h⟩
  · refine ⟨some ⟨g, 0, none⟩, cap, by rw [List.length_map], fun hne => ⟨g, 0, rfl, lt_of_block hgb, fun i o ho => ?_⟩⟩
    rw [List.getElem?_map] at ho
    cases hp : P[i]? with
    | none => rw [hp] at ho; cases ho
    | some p =>
      rw [hp] at ho
      obtain rfl : p.1 = o := by simpa using ho
      obtain ⟨f0, f1, f2, f3, f4, f5⟩ := ordC_get P i p hp
      obtain ⟨hpp, hpd⟩ := h.own p (List.mem_of_getElem? hp)
      refine ⟨p.2.1, p.2.2, ?_, hpp.at, hpd.row⟩
      rw [show (0 : Nat) + i * 6 = i * 6 from Nat.zero_add _]
      exact ⟨own_cell h.row _ _ f0, own_cell h.row _ _ f1, own_cell h.row _ _ f2, own_cell h.row _ _ f3, own_cell h.row _ _ f4, own_cell h.row _ _ f5⟩
end
end Go.Proofs.YtmmgebiojpnhcaaDoor.Ord
