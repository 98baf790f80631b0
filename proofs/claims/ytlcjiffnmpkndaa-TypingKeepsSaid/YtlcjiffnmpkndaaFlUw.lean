/-
  Fields, plainly: their cells are all cells, each once.
-/
import Derived.Test.YtlcjiffnmpkndaaFlTw
namespace Go.Proofs.Ytlcjiffnmpkndaa.Pl
open Go.RowKit Go.Shelf Base
set_option linter.unusedVariables false
set_option linter.unusedSimpArgs false

theorem step_shift' (n : Nat) (s : Int) (i : Nat) : step n (s + 1) i = step n s (i + 1) := step_shift n s i
theorem step_inj {n : Nat} {s : Int} {i j : Nat} (hi : i < n) (hj : j < n) (h : step n s i = step n s j) : i = j := by
  unfold step at h
  have h2 : ((s + i) - (s + j)) % (n : Int) = 0 := Int.emod_eq_zero_of_dvd (Int.dvd_of_emod_eq_zero (by rw [Int.sub_emod, h]; simp))
  rw [show s + (i : Int) - (s + j) = (i : Int) - j by omega] at h2
  by_cases hij : (j : Int) ≤ i
  · rw [Int.emod_eq_of_lt (by omega) (by omega)] at h2; omega
  · have : ((i : Int) - j + n) % n = 0 := by rw [Int.add_emod_right]; exact h2
    rw [Int.emod_eq_of_lt (by omega) (by omega)] at this; omega
theorem step_at (n : Nat) {s : Int} (h0 : 0 ≤ s) (h1 : s < n) : step n s 0 = s := step_zero n s h0 h1
theorem first_cons (n : Nat) {s : Int} (h0 : 0 ≤ s) (h1 : s < n) (k : Nat) : first n s (k + 1) = s :: first n (s + 1) k := by
  unfold first
  rw [List.range_succ_eq_map, List.map_cons, List.map_map, step_at n h0 h1]
  congr 1
  apply List.map_congr_left
  intro i _
  exact (step_shift n s i).symm
theorem first_nodup {n k : Nat} (s : Int) (hk : k ≤ n) : (first n s k).Nodup := by
  unfold first
  refine List.pairwise_map.2 (List.Pairwise.imp_of_mem ?_ (List.pairwise_lt_range (n := k)))
  intro i j hi hj hlt h
  have := step_inj (n := n) (by have := List.mem_range.1 hi; omega) (by have := List.mem_range.1 hj; omega) h
  omega
/-- How far it is to the next attribute. -/
theorem aft_min {L : List Cl} {s : Int} (h0 : 0 ≤ s) (h1 : s < L.length) (hs : (atL L s).st = true) :
    ∃ j : Nat, j < L.length ∧ aftL L s = step L.length (s + 1) j ∧ (atL L (step L.length (s + 1) j)).st = true ∧ ∀ i, i < j → (atL L (step L.length (s + 1) i)).st = false := by
  have hlast : step L.length (s + 1) (L.length - 1) = s := by
    unfold step
    rw [show s + 1 + ((L.length - 1 : Nat) : Int) = s + L.length by omega, Int.add_emod_right]
    exact Int.emod_eq_of_lt h0 h1
  obtain ⟨j, hj, hjs, hmin⟩ : ∃ j : Nat, j < L.length ∧ (atL L (step L.length (s + 1) j)).st = true ∧ ∀ i, i < j → (atL L (step L.length (s + 1) i)).st = false := by
    have key : ∀ m : Nat, (∃ j, j < m ∧ (atL L (step L.length (s + 1) j)).st = true ∧ ∀ i, i < j → (atL L (step L.length (s + 1) i)).st = false) ∨ ∀ i, i < m → (atL L (step L.length (s + 1) i)).st = false := by
      intro m
      induction m with
      | zero => right; intro i hi; omega
      | succ m ih =>
        rcases ih with ⟨j, hj, h2⟩ | h
        · left; exact ⟨j, by omega, h2⟩
        · cases hm : (atL L (step L.length (s + 1) m)).st with
          | true => left; exact ⟨m, by omega, hm, h⟩
          | false =>
            right
            intro i hi
            rcases Nat.lt_or_ge i m with h3 | h3
            · exact h i h3
            · obtain rfl : i = m := by omega
              exact hm
    rcases key L.length with h | h
    · exact h
    · have := h (L.length - 1) (by omega)
      rw [hlast, hs] at this; cases this
  refine ⟨j, hj, ?_, hjs, hmin⟩
  unfold aftL placesL
  rw [if_pos (by simp [inL]; omega)]
  exact first_at (j := j) (by omega) rfl hjs hmin
theorem begF_len {L : List Cl} {s : Int} (h0 : 0 ≤ s) (h1 : s < L.length) {j : Nat} (hj : j < L.length) (ha : aftL L s = step L.length (s + 1) j) : (begF L s).k = j := by
  show mv L.length (aftL L s) (-1 - s) = j
  unfold mv
  rw [if_neg (by omega), ha]
  unfold step
  rw [Int.emod_add_emod, show s + 1 + (j : Int) + (-1 - s) = j by omega]
  exact Int.emod_eq_of_lt (by omega) (by omega)
theorem begF_bd {L : List Cl} (h0 : 1 ≤ L.length) (s : Int) : 0 ≤ (begF L s).k ∧ (begF L s).k < L.length := by
  show 0 ≤ mv L.length (aftL L s) (-1 - s) ∧ mv L.length (aftL L s) (-1 - s) < L.length
  unfold mv
  rw [if_neg (by omega)]
  exact ⟨Int.emod_nonneg _ (by omega), Int.emod_lt_of_pos _ (by omega)⟩
/-- A field's cells belong to it. -/
theorem bef_in {L : List Cl} {s : Int} (h0 : 0 ≤ s) (h1 : s < L.length) (hs : (atL L s).st = true) {i : Nat} (hi : (i : Int) ≤ (begF L s).k) : befL L (step L.length s i) = s := by
  obtain ⟨j, hj, ha, hjs, hmin⟩ := aft_min h0 h1 hs
  rw [begF_len h0 h1 hj ha] at hi
  have hb := step_bd L.length s i (by omega)
  unfold befL backL
  rw [if_pos (by simp [inL]; omega)]
  have e : ∀ d : Nat, d ≤ i → (step L.length s i - d) % (L.length : Int) = step L.length s (i - d) := by
    intro d hd
    unfold step
    rw [Int.emod_sub_emod, show s + (i : Int) - d = s + ((i - d : Nat) : Int) by omega]
  refine find_hit (pre := backK L.length (step L.length s i) i) ?_ ?_ hs
  · have : backK L.length (step L.length s i) i ++ [s] = backK L.length (step L.length s i) (i + 1) := by
      rw [backK_succ, e i (Nat.le_refl _), Nat.sub_self, step_at _ h0 h1]
    rw [this]; exact backK_prefix _ _ (by omega)
  · intro y hy
    obtain ⟨d, hd, rfl⟩ := List.mem_map.1 hy
    have hd' := List.mem_range.1 hd
    rw [e d (by omega)]
    obtain ⟨q, hq⟩ : ∃ q, i - d = q + 1 := ⟨i - d - 1, by omega⟩
    rw [hq, ← step_shift]
    exact hmin q (by omega)
/-- The cells of a field, and its attribute's. -/
def cellsF (n : Nat) (f : Fd) : List Int := f.s :: placesL n f.s f.k
def partsL (L : List Cl) : List (Int × Fd) := (allL L).flatMap fun f => (cellsF L.length f).map fun y => (y, f)
theorem mem_allL {L : List Cl} {f : Fd} (h : f ∈ allL L) : ∃ s : Int, 0 ≤ s ∧ s < L.length ∧ (atL L s).st = true ∧ f = begF L s := by
  obtain ⟨i, _, h1, h2, h3⟩ := mem_allK _ _ h
  exact ⟨i, by omega, by omega, h2, h3⟩
theorem in_allK {L : List Cl} {s : Nat} (hs : (atL L s).st = true) : ∀ n : Nat, s < n → begF L s ∈ allK L (fun _ => L) n
  | 0, h => by omega
  | n + 1, h => by
    by_cases he : s = n
    · subst he; rw [allK_succ_yes hs]; simp
    · have := in_allK hs n (by omega)
      cases hn : (atL L n).st with
      | true => rw [allK_succ_yes hn]; exact List.mem_append_left _ this
      | false => rw [allK_succ_no hn]; exact this
theorem in_allL {L : List Cl} {s : Int} (h0 : 0 ≤ s) (h1 : s < L.length) (hs : (atL L s).st = true) : begF L s ∈ allL L := by
  have := in_allK (L := L) (s := s.toNat) (by rw [Int.toNat_of_nonneg h0]; exact hs) L.length (by omega)
  rwa [Int.toNat_of_nonneg h0] at this
theorem cellsF_eq {L : List Cl} {s : Int} (h0 : 0 ≤ s) (h1 : s < L.length) : cellsF L.length (begF L s) = first L.length s ((begF L s).k.toNat + 1) := by
  rw [first_cons _ h0 h1]
  unfold cellsF placesL
  rw [begF_s, if_pos (by simp [inL]; omega)]
theorem mem_cells {L : List Cl} {f : Fd} (hf : f ∈ allL L) {y : Int} (hy : y ∈ cellsF L.length f) : 0 ≤ y ∧ y < L.length ∧ befL L y = f.s ∧ ofF L y = f := by
  obtain ⟨s, h0, h1, hs, rfl⟩ := mem_allL hf
  rw [cellsF_eq h0 h1] at hy
  obtain ⟨i, hi, rfl⟩ := List.mem_map.1 hy
  have hi' := List.mem_range.1 hi
  have hk := begF_bd (L := L) (by omega) s
  have hb := step_bd L.length s i (by omega)
  have hbef := bef_in h0 h1 hs (i := i) (by omega)
  refine ⟨hb.1, hb.2, hbef, ?_⟩
  unfold ofF
  rw [hbef, if_neg (by omega)]
theorem cover {L : List Cl} {y : Int} (h0 : 0 ≤ y) (h1 : y < L.length) (hne : allL L ≠ []) : ofF L y ∈ allL L ∧ y ∈ cellsF L.length (ofF L y) := by
  have hb : befL L y ≠ -1 := fun h => hne ((bef_none h0 h1).1 h)
  obtain ⟨s, hse⟩ : ∃ s, s = befL L y := ⟨_, rfl⟩
  have hof : ofF L y = begF L s := by unfold ofF; rw [if_neg hb, ← hse]
  rw [hof]
  -- the first attribute that comes back from y
  have hx : ∃ d : Nat, d < L.length ∧ s = (y - d) % (L.length : Int) ∧ (atL L s).st = true ∧ ∀ e, e < d → (atL L ((y - e) % (L.length : Int))).st = false := by
    have hs1 : befL L y = s := hse.symm
    unfold befL firstL backL at hs1
    rw [if_pos (by simp [inL]; omega)] at hs1
    cases hf : (backK L.length y L.length).find? (fun p => (atL L p).st) with
    | none =>
      rw [hf] at hs1
      exact absurd (hse ▸ hs1.symm) hb
    | some p =>
      rw [hf] at hs1
      have hp : p = s := hs1
      subst hp
      obtain ⟨hst, pp, bs, heq, hno⟩ := List.find?_eq_some_iff_append.1 hf
      have hlen : pp.length < L.length := by
        have := congrArg List.length heq
        rw [backK_length] at this; simp at this; omega
      have hget : ∀ e : Nat, e < L.length → (backK L.length y L.length)[e]? = some ((y - e) % (L.length : Int)) := by
        intro e he; simp [backK, he]
      refine ⟨pp.length, hlen, ?_, hst, fun e he => ?_⟩
      · have := hget pp.length hlen
        rw [heq] at this; simp at this; exact this
      · have := hget e (by omega)
        rw [heq, List.getElem?_append_left he] at this
        have hm := List.mem_of_getElem? this
        have := hno _ hm
        simpa using this
  obtain ⟨d, hd, hsd, hst, hno⟩ := hx
  have hs0 : 0 ≤ s ∧ s < L.length := by rw [hsd]; exact ⟨Int.emod_nonneg _ (by omega), Int.emod_lt_of_pos _ (by omega)⟩
  refine ⟨in_allL hs0.1 hs0.2 hst, ?_⟩
  rw [cellsF_eq hs0.1 hs0.2]
  obtain ⟨j, hj, ha, hjs, hmin⟩ := aft_min hs0.1 hs0.2 hst
  rw [begF_len hs0.1 hs0.2 hj ha, Int.toNat_natCast]
  have hy : ∀ e : Nat, e ≤ d → step L.length s e = (y - ((d - e : Nat) : Int)) % (L.length : Int) := by
    intro e he
    unfold step
    rw [hsd, Int.emod_add_emod, show y - (d : Int) + e = y - ((d - e : Nat) : Int) by omega]
  have hyd : step L.length s d = y := by
    rw [hy d (Nat.le_refl _), Nat.sub_self]
    rw [show y - ((0 : Nat) : Int) = y by omega]; exact Int.emod_eq_of_lt h0 h1
  refine List.mem_map.2 ⟨d, List.mem_range.2 ?_, hyd⟩
  by_cases hdj : d ≤ j
  · omega
  · exfalso
    have h3 := hno (d - (j + 1)) (by omega)
    rw [step_shift, hy (j + 1) (by omega)] at hjs
    rw [hjs] at h3; cases h3
theorem all_pair (L : List Cl) : ∀ N : Nat, (allK L (fun _ => L) N).Pairwise fun f g => f.s < g.s
  | 0 => by simp [allK]
  | N + 1 => by
    cases hs : (atL L N).st with
    | false => rw [allK_succ_no hs]; exact all_pair L N
    | true =>
      rw [allK_succ_yes hs]
      refine List.pairwise_append.2 ⟨all_pair L N, by simp, fun f hf g hg => ?_⟩
      obtain ⟨i, _, h1, _, rfl⟩ := mem_allK _ _ hf
      obtain rfl : g = begF L N := by simpa using hg
      show (i : Int) < N; omega
theorem parts_nodup (L : List Cl) : ((partsL L).map (·.1)).Nodup := by
  refine List.pairwise_map.2 (List.pairwise_flatMap.2 ⟨fun f hf => ?_, List.Pairwise.imp_of_mem ?_ (all_pair L L.length)⟩)
  · obtain ⟨s, h0, h1, hs, rfl⟩ := mem_allL hf
    have hk := begF_bd (L := L) (by omega) s
    refine List.pairwise_map.2 ?_
    rw [cellsF_eq h0 h1]
    exact first_nodup s (by omega)
  · intro f g hf hg hlt x hx y hy
    obtain ⟨a, ha, rfl⟩ := List.mem_map.1 hx
    obtain ⟨b, hb, rfl⟩ := List.mem_map.1 hy
    show a ≠ b
    rintro rfl
    have h1 := (mem_cells hf ha).2.2.1
    have h2 := (mem_cells hg hb).2.2.1
    omega
theorem mem_parts {L : List Cl} {y : Int} {f : Fd} (h : (y, f) ∈ partsL L) : 0 ≤ y ∧ y < L.length ∧ f = ofF L y := by
  obtain ⟨g, hg, hx⟩ := List.mem_flatMap.1 h
  obtain ⟨a, ha, he⟩ := List.mem_map.1 hx
  injection he with h1 h2
  subst h1 h2
  obtain ⟨x0, x1, _, x2⟩ := mem_cells hg ha
  exact ⟨x0, x1, x2.symm⟩
theorem in_parts {L : List Cl} {y : Int} (h0 : 0 ≤ y) (h1 : y < L.length) (hne : allL L ≠ []) : (y, ofF L y) ∈ partsL L := by
  obtain ⟨h2, h3⟩ := cover h0 h1 hne
  exact List.mem_flatMap.2 ⟨_, h2, List.mem_map.2 ⟨y, h3, rfl⟩⟩
theorem parts_len {L : List Cl} (hne : allL L ≠ []) : (partsL L).length = L.length := by
  have hp : ((partsL L).map (·.1)).Perm ((List.range L.length).map fun i : Nat => (i : Int)) := by
    refine List.perm_iff_count.2 fun a => ?_
    have hn2 : ((List.range L.length).map fun i : Nat => (i : Int)).Nodup := List.pairwise_map.2 (List.Pairwise.imp (fun h => by omega) (List.pairwise_lt_range (n := L.length)))
    rw [(parts_nodup L).count, hn2.count]
    have : a ∈ (partsL L).map (·.1) ↔ a ∈ (List.range L.length).map fun i : Nat => (i : Int) := by
      constructor
      · intro h
        obtain ⟨⟨y, f⟩, hy, rfl⟩ := List.mem_map.1 h
        obtain ⟨h0, h1, _⟩ := mem_parts hy
        exact List.mem_map.2 ⟨y.toNat, List.mem_range.2 (by omega), by omega⟩
      · intro h
        obtain ⟨i, hi, rfl⟩ := List.mem_map.1 h
        have := List.mem_range.1 hi
        exact List.mem_map.2 ⟨_, in_parts (y := i) (by omega) (by omega) hne, rfl⟩
    simp only [this]
  have := hp.length_eq
  simpa using this
theorem parts_nil {L : List Cl} (h : allL L = []) : partsL L = [] := by unfold partsL; rw [h]; rfl
theorem home_open {L : List Cl} (h : homeL L ≠ 0) : opnL L (homeL L) = true := by
  unfold homeL at h ⊢
  cases hf : (allL L).find? goodF with
  | none => rw [hf] at h; exact absurd rfl h
  | some f =>
    rw [hf] at h
    simp only at h ⊢
    have hm := List.mem_of_find?_eq_some hf
    have hg : goodF f = true := List.find?_some (p := goodF) hf
    obtain ⟨s, h0, h1, hs, rfl⟩ := mem_allL hm
    have hk := begF_bd (L := L) (by omega) s
    unfold goodF at hg
    simp at hg
    obtain ⟨hk1, hpr⟩ := hg
    have hy : mv L.length (begF L s).s 1 = step L.length s 1 := by
      unfold mv step; rw [if_neg (by omega)]; rfl
    rw [hy]
    have hb := step_bd L.length s 1 (by omega)
    have hbef := bef_in h0 h1 hs (i := 1) (by omega)
    have hne : step L.length s 1 ≠ s := by
      intro he
      have := step_inj (n := L.length) (s := s) (i := 1) (j := 0) (by omega) (by omega) (by rw [he, step_at _ h0 h1])
      omega
    have hpr2 : Attr.prot (atL L s).b = false := by rw [← prot_mod]; exact hpr
    unfold opnL
    rw [hbef]
    have e1 : (s == -1) = false := by simp; omega
    have e2 : (s != step L.length s 1) = true := by simpa using Ne.symm hne
    rw [e1, e2, hpr2]
    simp [inL]; omega
end Go.Proofs.Ytlcjiffnmpkndaa.Pl
