/-
  A row of queues of the call's own: what is known of it, and what stays known.
-/
import Derived.Test.YtdmhjdmeelpmjaaMailE
import Derived.Test.YtdmhjdmeelpmjaaOpen
namespace Go.Proofs.Ytdmhjdmeelpmjaa.Mail
open Go.RowKit Go.Conc Go.Shelf
set_option linter.unusedVariables false

theorem getD_app (l : List Nat) (x j : Nat) (h : j < l.length) : (l ++ [x]).getD j 0 = l.getD j 0 := by simp [List.getD, List.getElem?_append_left h]
/-- A pointer to a queue. -/
def ptr (c : Nat) : Value := .pointer (some ⟨c + 1, 0, none⟩)
/-- Queues of the call's own, in this order; what waits in each. -/
structure FQ (B : Nat) (w : World) (cs : List Nat) (st : Nat → List Int) (wr : World) : Prop where
  que : ∀ j, j < cs.length → ∃ r, QAt wr (cs.getD j 0) r (st j) true
  base : ∀ j, j < cs.length → B ≤ cs.getD j 0
  apart : ∀ i j, i < j → j < cs.length → cs.getD i 0 + 2 ≤ cs.getD j 0
  old : Below B w wr
section
variable {B : Nat} {w wr wr' : World} {cs : List Nat} {st st' : Nat → List Int}
theorem FQ.keep (h : FQ B w cs st wr) (ho : Below B wr wr') (hk : ∀ j, j < cs.length → wr'.heap[cs.getD j 0]? = wr.heap[cs.getD j 0]? ∧ wr'.heap[cs.getD j 0 + 1]? = wr.heap[cs.getD j 0 + 1]?) : FQ B w cs st wr' := by
  refine ⟨fun j hj => ?_, h.base, h.apart, h.old.trans ho⟩
  obtain ⟨r, q⟩ := h.que j hj
  obtain ⟨k1, k2⟩ := hk j hj
  obtain ⟨s, r', hc⟩ := q.chan
  exact ⟨r, ⟨s, r', k1.trans hc⟩, k2.trans q.box, q.fits, q.most⟩
theorem FQ.congr (h : FQ B w cs st wr) (hs : ∀ j, j < cs.length → st' j = st j) : FQ B w cs st' wr :=
  ⟨fun j hj => by rw [hs j hj]; exact h.que j hj, h.base, h.apart, h.old⟩
theorem FQ.below (h : FQ B w cs st wr) (hB : B ≤ wr.heap.size) (ho : Below wr.heap.size wr wr') : FQ B w cs st wr' :=
  h.keep (ho.mono hB) fun j hj => by
    obtain ⟨r, q⟩ := h.que j hj
    have := q.lt
    exact ⟨ho.block _ (by omega), ho.block _ (by omega)⟩
/-- An append to a row of pointers leaves the queues alone. -/
theorem FQ.grown {v : Value} {xs : List Value} {n : Nat} (h : FQ B w cs st wr) (hown : wr.ownsRow B 24 1 v n xs) (hg : wr.grownBy wr' v.ownBlock) (hB : B ≤ wr.heap.size) : FQ B w cs st wr' := by
  refine h.keep ((Below.refl B wr).grown hg hB fun k e => ?_) fun j hj => ?_
  · rcases hown.2 with ⟨rfl, _⟩ | ⟨g, cap, cur, rfl, hb, _, _⟩
    · cases e
    · cases e; exact hb
  · obtain ⟨r, q⟩ := h.que j hj
    have hl := q.lt
    obtain ⟨s, r', hc⟩ := q.chan
    refine ⟨hg.block _ (by omega) fun e => ?_, hg.block _ (by omega) fun e => ?_⟩
    · rcases hown.2 with ⟨rfl, _⟩ | ⟨g, cap, cur, rfl, _, hgb, _⟩
      · cases e
      · obtain rfl : cs.getD j 0 = g := by simpa [Value.ownBlock] using e
        rw [hc] at hgb; cases hgb
    · rcases hown.2 with ⟨rfl, _⟩ | ⟨g, cap, cur, rfl, _, hgb, _⟩
      · cases e
      · obtain rfl : cs.getD j 0 + 1 = g := by simpa [Value.ownBlock] using e
        rw [q.box] at hgb
        simp at hgb
/-- One queue more. -/
theorem FQ.more {c r : Nat} {ys : List Int} (h : FQ B w cs st wr) (q : QAt wr c r ys true) (hc : B ≤ c) (hl : ∀ j, j < cs.length → cs.getD j 0 + 2 ≤ c) (hs : ∀ j, j < cs.length → st' j = st j) (hn : st' cs.length = ys) : FQ B w (cs ++ [c]) st' wr := by
  refine ⟨fun j hj => ?_, fun j hj => ?_, fun i j hij hj => ?_, h.old⟩
  all_goals rw [List.length_append, List.length_singleton] at hj
  · by_cases hj' : j < cs.length
    · obtain ⟨r', q'⟩ := h.que j hj'
      refine ⟨r', ?_⟩
      rw [getD_app _ _ _ hj', hs j hj']
      exact q'
    · obtain rfl : j = cs.length := by omega
      refine ⟨r, ?_⟩
      rw [hn]
      simpa [List.getD] using q
  · by_cases hj' : j < cs.length
    · rw [getD_app _ _ _ hj']; exact h.base j hj'
    · obtain rfl : j = cs.length := by omega
      simpa [List.getD] using hc
  · by_cases hj' : j < cs.length
    · rw [getD_app _ _ _ hj', getD_app _ _ _ (by omega)]; exact h.apart i j hij hj'
    · obtain rfl : j = cs.length := by omega
      rw [getD_app _ _ _ hij]
      have := hl i hij
      simpa [List.getD] using this
/-- One queue turned. -/
theorem FQ.turn {i r : Nat} {ys : List Int} (h : FQ B w cs st wr) (hi : i < cs.length) (q : QAt wr' (cs.getD i 0) r ys true) (t : Turn (Of (cs.getD i 0)) wr wr') (hB : B ≤ wr.heap.size) (hs : ∀ j, j < cs.length → j ≠ i → st' j = st j) (hn : st' i = ys) : FQ B w cs st' wr' := by
  refine ⟨fun j hj => ?_, h.base, h.apart, h.old.trans (t.below hB fun k e => by have := h.base i hi; rcases e with e | e <;> omega)⟩
  by_cases e : j = i
  · subst e; rw [hn]; exact ⟨r, q⟩
  · obtain ⟨r', q'⟩ := h.que j hj
    rw [hs j hj e]
    have : cs.getD i 0 + 2 ≤ cs.getD j 0 ∨ cs.getD j 0 + 2 ≤ cs.getD i 0 := by
      rcases Nat.lt_or_gt_of_ne e with h' | h'
      · exact .inr (h.apart j i h' hi)
      · exact .inl (h.apart i j h' hj)
    exact ⟨r', q'.keep t (by unfold Of; omega) (by unfold Of; omega)⟩
/-- A row of pointers stays while a queue is turned. -/
theorem ownsRow_turn {c r : Nat} {ys : List Int} {t : Bool} {v : Value} {n : Nat} {xs : List Value} (hown : wr.ownsRow B 24 1 v n xs) (q : QAt wr c r ys t) (u : Turn (Of c) wr wr') : wr'.ownsRow B 24 1 v n xs := by
  refine ⟨hown.1, ?_⟩
  rcases hown.2 with h0 | ⟨g, cap, cur, rfl, hg, hgb, rest⟩
  · exact .inl h0
  · refine .inr ⟨g, cap, cur, rfl, hg, (u.block g (lt_of_block hgb) fun e => ?_).trans hgb, rest⟩
    obtain ⟨s, r', hc⟩ := q.chan
    rcases e with rfl | rfl
    · rw [hc] at hgb; cases hgb
    · rw [q.box] at hgb; simp at hgb
theorem ownsRow_below {v : Value} {n : Nat} {xs : List Value} (hown : wr.ownsRow B 24 1 v n xs) (u : Below wr.heap.size wr wr') : wr'.ownsRow B 24 1 v n xs := by
  refine ⟨hown.1, ?_⟩
  rcases hown.2 with h0 | ⟨g, cap, cur, rfl, hg, hgb, rest⟩
  · exact .inl h0
  · exact .inr ⟨g, cap, cur, rfl, hg, (u.block g (lt_of_block hgb)).trans hgb, rest⟩
theorem PtrsAt.of_owns {v : Value} {n : Nat} (hown : wr.ownsRow B 24 1 v n (cs.map ptr)) (hn : n = cs.length) : PtrsAt wr v cs := by
  subst hn
  rcases hown.2 with ⟨rfl, h0⟩ | ⟨g, cap, cur, rfl, _, hg, _, _, _, _⟩
  · exact ⟨none, 0, by rw [h0], fun hne => absurd (List.eq_nil_of_length_eq_zero h0) hne⟩
  · refine ⟨_, cap, rfl, fun _ => ⟨g, 0, rfl, fun i hi => ?_⟩⟩
    have := World.ownsRow.cells hown (g := g) rfl i (ptr (cs.getD i 0)) (by simp [hi, List.getD])
    rw [show (0 : Nat) + i = i from Nat.zero_add i]
    by_cases hi0 : i = 0
    · subst hi0; simpa [Addr.add, ptr] using this
    · simpa [Addr.add, hi0, ptr] using this
end
theorem info_pQueue : (Try.prog.info? 24).map (fun i => (i.zero, i.size, i.bytes)) = some (some (.pointer none), 1, 8) := by kernel_rfl
end Go.Proofs.Ytdmhjdmeelpmjaa.Mail
