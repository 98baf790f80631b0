/-
  Fields, plainly: in order, from attribute to attribute, round to the first.
-/
import Derived.Test.YtlcjiffnmpkndaaFlI
namespace Go.Proofs.Ytlcjiffnmpkndaa.Pl
open Go.RowKit Go.Shelf Base
set_option linter.unusedVariables false
set_option linter.unusedSimpArgs false

/-- The fields that begin ahead of place N, in order, and none between. -/
structure Stg (L : List Cl) (X : List Fd) (N : Nat) : Prop where
  each : ∀ (i : Nat) (f : Fd), X[i]? = some f → ∃ p : Nat, p < N ∧ (atL L p).st = true ∧ f = begF L p
  next : ∀ (i : Nat) (f g : Fd), X[i]? = some f → X[i + 1]? = some g → f.s < g.s ∧ ∀ y : Int, f.s < y → y < g.s → (atL L y).st = false
  ahead : ∀ (f : Fd), X[0]? = some f → ∀ y : Int, 0 ≤ y → y < f.s → (atL L y).st = false
  behind : ∀ (i : Nat) (f : Fd), X[i]? = some f → X[i + 1]? = none → ∀ y : Int, f.s < y → y < N → (atL L y).st = false
  none : X = [] → ∀ y : Int, 0 ≤ y → y < N → (atL L y).st = false
theorem begF_s (L : List Cl) (p : Int) : (begF L p).s = p := rfl
theorem stg (L : List Cl) : ∀ N : Nat, Stg L (allK L (fun _ => L) N) N
  | 0 => ⟨by simp [allK], by simp [allK], by simp [allK], by simp [allK], fun _ y h0 h1 => by omega⟩
  | N + 1 => by
    have h := stg L N
    cases hs : (atL L N).st with
    | false =>
      rw [allK_succ_no hs]
      have hy : ∀ y : Int, y < (N + 1 : Nat) → y < N ∨ y = N := fun y hy => by omega
      refine ⟨fun i f hf => ?_, h.next, h.ahead, fun i f hf hn y h1 h2 => ?_, fun he y h1 h2 => ?_⟩
      · obtain ⟨p, h1, h2, h3⟩ := h.each i f hf; exact ⟨p, by omega, h2, h3⟩
      · rcases hy y h2 with h3 | rfl
        · exact h.behind i f hf hn y h1 h3
        · exact hs
      · rcases hy y h2 with h3 | rfl
        · exact h.none he y h1 h3
        · exact hs
    | true =>
      rw [allK_succ_yes hs]
      obtain ⟨X, hX⟩ : ∃ X, X = allK L (fun _ => L) N := ⟨_, rfl⟩
      rw [← hX] at h ⊢
      have hg : ∀ (i : Nat) (f : Fd), (X ++ [begF L N])[i]? = some f → X[i]? = some f ∨ i = X.length ∧ f = begF L N := by
        intro i f hf
        by_cases hi : i < X.length
        · left; rwa [List.getElem?_append_left hi] at hf
        · right
          rw [List.getElem?_append_right (by omega)] at hf
          have : i - X.length = 0 := by
            by_cases h0 : i - X.length = 0
            · exact h0
            · rw [List.getElem?_eq_none (by simp; omega)] at hf; cases hf
          rw [this] at hf
          simp at hf
          exact ⟨by omega, hf.symm⟩
      refine ⟨fun i f hf => ?_, fun i f g hf hgg => ?_, fun f hf y h1 h2 => ?_, fun i f hf hn y h1 h2 => ?_, fun he => by simp at he⟩
      · rcases hg i f hf with hf | ⟨_, rfl⟩
        · obtain ⟨p, h1, h2, h3⟩ := h.each i f hf; exact ⟨p, by omega, h2, h3⟩
        · exact ⟨N, by omega, hs, rfl⟩
      · rcases hg (i + 1) g hgg with hgg' | ⟨hi, rfl⟩
        · have hl : i + 1 < X.length := (List.getElem?_eq_some_iff.1 hgg').1
          rcases hg i f hf with hf | ⟨hi, _⟩
          · exact h.next i f g hf hgg'
          · omega
        · rcases hg i f hf with hf | ⟨hi2, _⟩
          · obtain ⟨p, h1, h2, h3⟩ := h.each i f hf
            refine ⟨by rw [h3]; show (p : Int) < N; omega, fun y hy1 hy2 => h.behind i f hf (List.getElem?_eq_none (by omega)) y hy1 hy2⟩
          · omega
      · rcases hg 0 f hf with hf | ⟨hi, rfl⟩
        · exact h.ahead f hf y h1 h2
        · exact h.none (List.eq_nil_of_length_eq_zero hi.symm) y h1 h2
      · rcases hg i f hf with hf | ⟨hi, rfl⟩
        · have hl : i < X.length := (List.getElem?_eq_some_iff.1 hf).1
          rw [List.getElem?_append] at hn
          split at hn
          · next h3 => rw [List.getElem?_eq_none_iff] at hn; omega
          · next h3 => rw [List.getElem?_eq_none_iff] at hn; simp at hn; omega
        · have : (begF L N).s = N := rfl
          omega
/-- The first attribute among places that go on from one: it is the one at j, if none ahead of it is one. -/
theorem first_at {L : List Cl} {n k j : Nat} {a t : Int} (hj : j < k) (ht : step n a j = t) (hs : (atL L t).st = true) (hno : ∀ i, i < j → (atL L (step n a i)).st = false) : firstL L (first n a k) = t := by
  refine find_hit (pre := first n a j) ?_ ?_ hs
  · rw [← ht, ← first_succ, first_prefix n a (j + 1) k (by omega)]; exact List.take_prefix _ _
  · intro y hy
    obtain ⟨i, hi, rfl⟩ := List.mem_map.1 hy
    exact hno i (List.mem_range.1 hi)
theorem step_lo {n : Nat} {s : Int} {i : Nat} (h0 : 0 ≤ s) (h : s + 1 + i < n) : step n (s + 1) i = s + 1 + i := Int.emod_eq_of_lt (by omega) h
theorem step_hi {n : Nat} {s : Int} {i : Nat} (h0 : s < n) (h1 : n ≤ s + 1 + i) (h2 : s + 1 + i < 2 * n) : step n (s + 1) i = s + 1 + i - n := by
  unfold step
  rw [← Int.sub_emod_right]; exact Int.emod_eq_of_lt (by omega) (by omega)
theorem aft_of {L : List Cl} {s t : Int} (hs0 : 0 ≤ s) (hs1 : s < L.length) (ht0 : 0 ≤ t) (ht1 : t < L.length) (ht : (atL L t).st = true)
    (h : (s < t ∧ ∀ y, s < y → y < t → (atL L y).st = false) ∨ (t ≤ s ∧ (∀ y, s < y → y < L.length → (atL L y).st = false) ∧ ∀ y, 0 ≤ y → y < t → (atL L y).st = false)) : aftL L s = t := by
  unfold aftL placesL
  rw [if_pos (by simp [inL]; omega)]
  rcases h with ⟨h1, h2⟩ | ⟨h1, h2, h3⟩
  · refine first_at (j := (t - s - 1).toNat) (by omega) ?_ ht (fun i hi => ?_)
    · rw [step_lo hs0 (by omega)]; omega
    · rw [step_lo hs0 (by omega)]; exact h2 _ (by omega) (by omega)
  · refine first_at (j := (t - s - 1 + L.length).toNat) (by omega) ?_ ht (fun i hi => ?_)
    · rw [step_hi hs1 (by omega) (by omega)]; omega
    · by_cases hlo : s + 1 + i < L.length
      · rw [step_lo hs0 hlo]; exact h2 _ (by omega) hlo
      · rw [step_hi hs1 (by omega) (by omega)]; exact h3 _ (by omega) (by omega)
/-- From attribute to attribute, and round. -/
theorem aft_next {L : List Cl} {i : Nat} {f g : Fd} (hf : (allL L)[i]? = some f) (hg : (allL L)[(i + 1) % (allL L).length]? = some g) : aftL L f.s = g.s := by
  have h := stg L L.length
  have hl : i < (allL L).length := (List.getElem?_eq_some_iff.1 hf).1
  obtain ⟨p, p1, p2, rfl⟩ := h.each i f hf
  obtain ⟨q, q1, q2, rfl⟩ := h.each _ g hg
  rw [begF_s, begF_s]
  by_cases hi : i + 1 < (allL L).length
  · rw [Nat.mod_eq_of_lt hi] at hg
    obtain ⟨h1, h2⟩ := h.next i _ _ hf hg
    exact aft_of (by omega) (by omega) (by omega) (by omega) q2 (.inl ⟨h1, h2⟩)
  · have hi' : i + 1 = (allL L).length := by omega
    rw [hi', Nat.mod_self] at hg
    have hb := h.behind i _ hf (List.getElem?_eq_none (by show (allL L).length ≤ i + 1; omega))
    have ha := h.ahead _ hg
    refine aft_of (by omega) (by omega) (by omega) (by omega) q2 (.inr ⟨?_, hb, ha⟩)
    by_cases hpq : (q : Int) ≤ p
    · exact hpq
    · have := ha p (by omega) (by rw [begF_s]; omega)
      rw [p2] at this; cases this
theorem back_head {n : Nat} {a : Int} (h0 : 0 ≤ a) (h1 : a < n) : ∃ t, backL n a = a :: t := by
  unfold backL
  rw [if_pos (by simp [inL]; omega)]
  obtain ⟨m, rfl⟩ : ∃ m, n = m + 1 := ⟨n - 1, by omega⟩
  unfold backK
  rw [List.range_succ_eq_map, List.map_cons]
  refine ⟨List.map (fun i : Nat => (a - i) % ((m + 1 : Nat) : Int)) (List.map Nat.succ (List.range m)), ?_⟩
  rw [show (a - (0 : Nat)) % ((m + 1 : Nat) : Int) = a from by rw [show a - ((0 : Nat) : Int) = a by omega]; exact Int.emod_eq_of_lt h0 h1]
theorem bef_self {L : List Cl} {p : Int} (h0 : 0 ≤ p) (h1 : p < L.length) (hs : (atL L p).st = true) : befL L p = p := by
  obtain ⟨t, ht⟩ := back_head h0 h1
  unfold befL
  rw [ht]
  exact find_hit (pre := []) ⟨t, rfl⟩ (by simp) hs
theorem open_self {L : List Cl} {p : Int} (h0 : 0 ≤ p) (h1 : p < L.length) (hs : (atL L p).st = true) : opnL L p = false := by
  unfold opnL
  rw [bef_self h0 h1 hs]
  have : (p == -1) = false := by simp; omega
  simp [this]
theorem mem_backL {n : Nat} {a y : Int} (h0 : 0 ≤ a) (h1 : a < n) (y0 : 0 ≤ y) (y1 : y < n) : y ∈ backL n a := by
  unfold backL
  rw [if_pos (by simp [inL]; omega)]
  refine List.mem_map.2 ⟨(if y ≤ a then a - y else a - y + n).toNat, List.mem_range.2 (by split <;> omega), ?_⟩
  split
  · next h => rw [show a - (((a - y).toNat : Nat) : Int) = y by omega]; exact Int.emod_eq_of_lt y0 y1
  · next h => rw [show a - (((a - y + n).toNat : Nat) : Int) = y - n by omega, Int.sub_emod_right]; exact Int.emod_eq_of_lt y0 y1
theorem bef_none {L : List Cl} {a : Int} (h0 : 0 ≤ a) (h1 : a < L.length) : befL L a = -1 ↔ allL L = [] := by
  have h := stg L L.length
  constructor
  · intro hb
    cases hX : allL L with
    | nil => rfl
    | cons f fs =>
      have hf : (allL L)[0]? = some f := by rw [hX]; rfl
      obtain ⟨p, p1, p2, _⟩ := h.each 0 f hf
      rcases firstL_cases (L := L) (backL L.length a) with ⟨_, hn⟩ | ⟨hm, _⟩
      · rw [hn p (mem_backL h0 h1 (by omega) (by omega))] at p2; cases p2
      · have := mem_back hm
        unfold befL at hb
        omega
  · intro hX
    rcases firstL_cases (L := L) (backL L.length a) with ⟨hn, _⟩ | ⟨hm, hs⟩
    · exact hn
    · have := mem_back hm
      rw [h.none hX _ this.1 this.2] at hs; cases hs
theorem isF_iff {L : List Cl} {a : Int} (h0 : 0 ≤ a) (h1 : a < L.length) : isF L a = decide (0 < (allL L).length) := by
  unfold isF
  by_cases h : befL L a = -1
  · have := (bef_none h0 h1).1 h
    rw [h, this]; rfl
  · have hn : allL L ≠ [] := fun e => h ((bef_none h0 h1).2 e)
    have : 0 < (allL L).length := List.length_pos_iff.2 hn
    simp [h, this]
theorem prot_mod (x : Int) : Attr.prot (x % 64) = Attr.prot x := by
  unfold Attr.prot
  congr 1
  apply propext
  omega
end Go.Proofs.Ytlcjiffnmpkndaa.Pl
