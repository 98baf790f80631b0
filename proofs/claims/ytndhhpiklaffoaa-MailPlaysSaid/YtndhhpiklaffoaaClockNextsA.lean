/-
  What a clock rings when the time of its first alarm comes, plainly.
-/
import Derived.Test.YtndhhpiklaffoaaClockI
namespace Go.Proofs.Ytndhhpiklaffoaa.Clock
open Go.RowKit
open Mail (Turn ret_int ret_bool sameInts_any RowOf ownsRow_base info_int)
set_option linter.unusedVariables false

theorem eq_of_lt {A B : List Int} (hA : A.Pairwise (· < ·)) (hB : B.Pairwise (· < ·)) (h : ∀ x, x ∈ A ↔ x ∈ B) : A = B := by
  induction A generalizing B with
  | nil =>
    cases B with
    | nil => rfl
    | cons b B => exact absurd ((h b).2 (by simp)) (by simp)
  | cons a A ih =>
    cases B with
    | nil => exact absurd ((h a).1 (by simp)) (by simp)
    | cons b B =>
      rw [List.pairwise_cons] at hA hB
      have h1 := (h a).1 (by simp)
      have h2 := (h b).2 (by simp)
      have e : a = b := by
        rcases List.mem_cons.1 h1 with e | h1
        · exact e
        · rcases List.mem_cons.1 h2 with e | h2
          · exact e.symm
          · have := hA.1 _ h2; have := hB.1 _ h1; omega
      subst e
      rw [ih hA.2 hB.2 fun x => ?_]
      constructor
      · intro hx
        rcases List.mem_cons.1 ((h x).1 (by simp [hx])) with e | hx'
        · have := hA.1 _ hx; omega
        · exact hx'
      · intro hx
        rcases List.mem_cons.1 ((h x).2 (by simp [hx])) with e | hx'
        · have := hB.1 _ hx; omega
        · exact hx'
theorem ids_eq {L : List (Int × Int)} (hu : L.Pairwise fun p q => p.2 ≠ q.2) {a b : Int × Int} (ha : a ∈ L) (hb : b ∈ L) (h : a.2 = b.2) : a = b := by
  induction L with
  | nil => simp at ha
  | cons q L ih =>
    rw [List.pairwise_cons] at hu
    rcases List.mem_cons.1 ha with ea | ha'
    · rcases List.mem_cons.1 hb with eb | hb'
      · rw [ea, eb]
      · exact absurd (ea ▸ h) (hu.1 b hb')
    · rcases List.mem_cons.1 hb with eb | hb'
      · exact absurd (eb ▸ h.symm) (hu.1 a ha')
      · exact ih hu.2 ha' hb'
/-- The alarm of a number, where it is. -/
theorem at_fi {L : List (Int × Int)} {id : Int} (hu : L.Pairwise fun p q => p.2 ≠ q.2) {q : Int × Int} (hq : q ∈ L) (he : q.2 = id) : has L id = true ∧ L.getD (fi L id) (0, 0) = q := by
  have hh : has L id = true := has_iff.2 ⟨q, hq, he⟩
  have hlt : fi L id < L.length := by simpa [has] using hh
  refine ⟨hh, ?_⟩
  have hm : L.getD (fi L id) (0, 0) = L[fi L id] := by simp [List.getD, hlt]
  rw [hm]
  refine ids_eq hu (List.getElem_mem _) hq ?_
  have := List.findIdx_getElem (p := fun p : Int × Int => p.2 == id) (xs := L) (w := hlt)
  have h2 : (L[fi L id]).2 = id := eq_of_beq this
  rw [h2, he]
theorem rungL_filter {L : List (Int × Int)} {now : Int} (hs : L.Pairwise Lt) : rungL now L = (L.filter fun p => decide (p.1 ≤ now)).map (·.2) ∧ restL now L = L.filter fun p => !decide (p.1 ≤ now) := by
  unfold rungL restL
  induction L with
  | nil => simp
  | cons q L ih =>
    rw [List.pairwise_cons] at hs
    by_cases h : q.1 ≤ now
    · have := ih hs.2
      simp [h, this]
    · have hall : ∀ r ∈ L, ¬ r.1 ≤ now := fun r hr => by
        have := hs.1 r hr
        unfold Lt at this
        omega
      have e1 : L.filter (fun p => decide (p.1 ≤ now)) = [] := by
        rw [List.filter_eq_nil_iff]
        intro r hr; simpa using hall r hr
      have e2 : L.filter (fun p => !decide (p.1 ≤ now)) = L := by
        rw [List.filter_eq_self]
        intro r hr; simpa using hall r hr
      rw [List.takeWhile_cons_of_neg (by simpa using h), List.dropWhile_cons_of_neg (by simpa using h), List.filter_cons_of_neg (by simpa using h), List.filter_cons_of_pos (by simpa using h), e1, e2]
      exact ⟨rfl, rfl⟩
/-- The numbers below j of the alarms that have just so many ticks left. -/
def wantL (now nx : Int) (L : List (Int × Int)) (j : Nat) : List Int := ((List.range j).filter fun i : Nat => has L (i : Int) && decide (leftI now L (i : Int) = nx - now)).map fun i : Nat => (i : Int)
theorem wantL_succ (now nx : Int) (L : List (Int × Int)) (j : Nat) : wantL now nx L (j + 1) = if has L (j : Int) = true ∧ leftI now L (j : Int) = nx - now then wantL now nx L j ++ [(j : Int)] else wantL now nx L j := by
  unfold wantL
  rw [List.range_succ, List.filter_append, List.map_append]
  by_cases h : has L (j : Int) = true ∧ leftI now L (j : Int) = nx - now
  · rw [if_pos h]; simp [h.1, h.2]
  · rw [if_neg h]
    have : (has L (j : Int) && decide (leftI now L (j : Int) = nx - now)) = false := by
      rw [← Bool.not_eq_true, Bool.and_eq_true, decide_eq_true_iff]; exact h
    simp [this]
theorem wantL_length (now nx : Int) (L : List (Int × Int)) (j : Nat) : (wantL now nx L j).length ≤ j := by
  unfold wantL
  rw [List.length_map]
  exact Nat.le_trans (List.length_filter_le _ _) (by simp)
theorem want_rung {now : Int} {p : Int × Int} {L : List (Int × Int)} {n : Nat} (wf : WF now (p :: L)) (hid : ∀ q ∈ p :: L, 0 ≤ q.2 ∧ q.2 < n) : wantL now p.1 (p :: L) n = rungL p.1 (p :: L) := by
  have hs := wf.sorted
  have hfirst : ∀ q ∈ p :: L, p.1 ≤ q.1 := fun q hq => by
    rcases List.mem_cons.1 hq with rfl | hq
    · exact Int.le_refl _
    · have := (List.pairwise_cons.1 hs).1 q hq
      unfold Lt at this
      omega
  refine eq_of_lt ?_ ?_ fun x => ?_
  · unfold wantL
    rw [List.pairwise_map]
    refine (List.Pairwise.filter _ List.pairwise_lt_range).imp fun h => by omega
  · rw [(rungL_filter hs).1, List.pairwise_map]
    refine List.Pairwise.imp_of_mem ?_ (hs.filter _)
    intro a b ha hb hab
    have h1 := hfirst a (List.mem_filter.1 ha).1
    have h2 : b.1 ≤ p.1 := by simpa using (List.mem_filter.1 hb).2
    unfold Lt at hab
    omega
  · rw [(rungL_filter hs).1]
    simp only [wantL, List.mem_map, List.mem_filter, List.mem_range, Bool.and_eq_true, decide_eq_true_iff]
    constructor
    · rintro ⟨i, ⟨hi, hh, hl⟩, rfl⟩
      obtain ⟨q, hq, he⟩ := has_iff.1 hh
      obtain ⟨_, hg⟩ := at_fi wf.ids hq he
      unfold leftI at hl
      rw [hh, hg] at hl
      simp only [if_true] at hl
      exact ⟨q, ⟨hq, by omega⟩, he⟩
    · rintro ⟨q, ⟨hq, hle⟩, rfl⟩
      have hb := hid q hq
      have h1 := hfirst q hq
      refine ⟨q.2.toNat, ⟨by omega, ?_⟩, by omega⟩
      rw [show ((q.2.toNat : Nat) : Int) = q.2 by omega]
      obtain ⟨hh, hg⟩ := at_fi wf.ids hq rfl
      refine ⟨hh, ?_⟩
      unfold leftI
      rw [hh, hg]
      simp only [if_true]
      omega
theorem mem_putA {now : Int} {L : List (Int × Int)} {id t : Int} {q : Int × Int} (h : q ∈ putA now L id t) : q ∈ L ∨ q = (lateI now t, id) ∧ 0 ≤ t := by
  unfold putA at h
  by_cases h1 : t < 0
  · rw [if_pos h1] at h; exact .inl h
  · rw [if_neg h1] at h
    split at h
    · exact .inl h
    · rcases mem_insL.1 h with rfl | h
      · exact .inr ⟨rfl, by omega⟩
      · exact .inl (List.mem_filter.1 h).1
theorem putA_length (now : Int) (L : List (Int × Int)) (id t : Int) : (putA now L id t).length ≤ L.length + 1 := by
  unfold putA
  by_cases h1 : t < 0
  · rw [if_pos h1]; omega
  · rw [if_neg h1]
    split
    · omega
    · rw [insL_length]
      have : (dropL L id).length ≤ L.length := List.length_filter_le _ _
      omega
theorem stepI_to {now nx : Int} (h0 : 0 ≤ now) (h1 : now ≤ nx) (h2 : nx ≤ MT) : stepI now (nx - now) = nx := by
  unfold stepI lateI MT at *
  omega
theorem quiet_before {now : Int} {p : Int × Int} {L : List (Int × Int)} (hs : (p :: L).Pairwise Lt) (h : now < p.1) : rungL now (p :: L) = [] ∧ restL now (p :: L) = p :: L := by
  unfold rungL restL
  simp [Int.not_le.2 h]
theorem rest_length {p : Int × Int} {L : List (Int × Int)} : (restL p.1 (p :: L)).length ≤ L.length := by
  unfold restL
  simp
  exact (List.dropWhile_sublist _).length_le
theorem same_true {s : Nat} {w W : World} {now : Int} {L : List (Int × Int)} {v u : Value} {X : List Int} (h : One s w W now L) (hx : RowOf .i64 W v X) (hy : RowOf .i64 W u X) (hm : X.length ≤ maxLen) :
    Calls Try.prog 19 #[v, u] W fun e W' => e = .returned (.bool true) ∧ One s w W' now L ∧ Turn (At s) W W' :=
  (same_one h hx hy hm).mono fun e W' ⟨he, h⟩ => ⟨by rw [he]; simp, h⟩
theorem one_grown {s : Nat} {w W w' : World} {now : Int} {L : List (Int × Int)} {v : Value} {n : Nat} {xs : List Value} (h : One s w W now L) (hr : W.ownsRow (s + 1) 3 1 v n xs) (hg : W.grownBy w' v.ownBlock) : One s w w' now L := by
  refine ⟨clock_grown h.clock hr (by omega) hg, h.wf, h.old.grown hg (by have := h.lt; omega) fun r e => ?_⟩
  rcases hr.2 with ⟨rfl, _⟩ | ⟨g, cap, cur, rfl, hg', _, _⟩
  · cases e
  · obtain rfl : r = g := by simpa [Value.ownBlock, eq_comm] using e
    omega
end Go.Proofs.Ytndhhpiklaffoaa.Clock
