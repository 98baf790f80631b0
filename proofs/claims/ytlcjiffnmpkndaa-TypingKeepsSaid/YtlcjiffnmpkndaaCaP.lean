/-
  Where the cursor goes, plainly: the open fields' attributes in order, and what comes next of them, and ahead.
-/
import Derived.Test.YtlcjiffnmpkndaaFlUw
import Derived.Test.YtlcjiffnmpkndaaCaA
namespace Go.Proofs.Ytlcjiffnmpkndaa.Pl
open Go.RowKit Go.Shelf Base
set_option linter.unusedVariables false
set_option linter.unusedSimpArgs false

def headN (n : Int) (xs : List Int) : Int := match xs.head? with | some s => mv n s 1 | none => 0
def firstEL (L : List Cl) (xs : List Int) : Int := match xs.find? (goodE L) with | some s => mv L.length s 1 | none => 0
theorem firstEL_eq (L : List Cl) (xs : List Int) : firstEL L xs = headN L.length (xs.filter (goodE L)) := by
  unfold firstEL headN; rw [List.head?_filter]
/-- So many numbers from one on. -/
def runN (a k : Nat) : List Int := (List.range k).map fun i : Nat => ((a + i : Nat) : Int)
theorem runN_split (a b : Nat) : runN 0 (a + b) = runN 0 a ++ runN a b := by
  unfold runN
  rw [List.range_add, List.map_append, List.map_map]
  simp [Function.comp_def]
theorem mem_runN {a k : Nat} {y : Int} : y ∈ runN a k ↔ (a : Int) ≤ y ∧ y < a + k := by
  unfold runN
  rw [List.mem_map]
  constructor
  · rintro ⟨i, hi, rfl⟩
    have := List.mem_range.1 hi
    omega
  · intro h
    exact ⟨(y - a).toNat, List.mem_range.2 (by omega), by omega⟩
theorem runN_pair (a k : Nat) : (runN a k).Pairwise (· < ·) := by
  unfold runN
  rw [List.pairwise_map]
  refine List.Pairwise.imp ?_ List.pairwise_lt_range
  intro i j h; omega
/-- The open fields' attributes, rising. -/
def opsL (L : List Cl) : List Int := (runN 0 L.length).filter (goodE L)
theorem opsL_pair (L : List Cl) : (opsL L).Pairwise (· < ·) := (runN_pair _ _).sublist List.filter_sublist
theorem mem_ops {L : List Cl} {s : Int} : s ∈ opsL L ↔ (0 ≤ s ∧ s < L.length) ∧ goodE L s = true := by
  unfold opsL
  rw [List.mem_filter, mem_runN]
  constructor
  · rintro ⟨h1, h2⟩; exact ⟨by omega, h2⟩
  · rintro ⟨h1, h2⟩; exact ⟨by omega, h2⟩
theorem ops_split (L : List Cl) (a : Nat) (h : a ≤ L.length) : opsL L = (runN 0 a).filter (goodE L) ++ (runN a (L.length - a)).filter (goodE L) := by
  unfold opsL
  rw [← List.filter_append, ← runN_split]; congr 2; omega
theorem good_st {L : List Cl} {s : Int} (h : goodE L s = true) : (atL L s).st = true ∧ Attr.prot (atL L s).b = false ∧ (atL L (mv L.length s 1)).st = false := by
  unfold goodE at h
  simp only [Bool.and_eq_true, Bool.not_eq_true'] at h
  exact ⟨h.1, h.2.1, h.2.2⟩
theorem ca_st {L : List Cl} {i : Int} (h : (atL L i).st = true) : 0 ≤ i ∧ i < L.length := by
  unfold atL at h
  split at h
  · assumption
  · cases h
/-! ### From a place on, going round -/
theorem first_runs (n a : Nat) (h : a < n) : first n a n = runN a (n - a) ++ runN 0 a := by
  have e : n = (n - a) + a := by omega
  unfold first runN
  conv => lhs; rw [e]
  rw [List.range_add, List.map_append, List.map_map]
  congr 1
  · refine List.map_congr_left fun i hi => ?_
    have := List.mem_range.1 hi
    unfold step
    rw [Int.emod_eq_of_lt (by omega) (by omega)]; omega
  · refine List.map_congr_left fun i hi => ?_
    have := List.mem_range.1 hi
    simp only [Function.comp_apply]
    unfold step
    rw [show (a : Int) + ((n - a + i : Nat) : Int) = ((0 + i : Nat) : Int) + (n - a + a : Nat) by omega, Int.add_emod_right]
    exact Int.emod_eq_of_lt (by omega) (by omega)
theorem betw_self (n : Nat) (a : Int) (h0 : 0 ≤ a) (h1 : a < n) : betw n a a = first n a n := by
  have hin : inn (n : Int) a a = true := decide_eq_true ⟨h0, h1, h0, h1⟩
  unfold betw
  rw [if_pos hin]
  congr 1
  unfold many; rw [if_pos (by omega)]; omega
def tabL (L : List Cl) (a : Int) : Int := firstEL L (betw L.length a a)
/-- The first one from a number on, or the first. -/
def nextO (n : Int) (os : List Int) (a : Int) : Int := match os.find? (fun o => decide (a ≤ o)) with | some o => mv n o 1 | none => headN n os
theorem tab_eq {L : List Cl} {a : Int} (h0 : 0 ≤ a) (h1 : a < L.length) : tabL L a = nextO L.length (opsL L) a := by
  obtain ⟨k, rfl⟩ : ∃ k : Nat, a = k := ⟨a.toNat, by omega⟩
  unfold tabL nextO
  rw [firstEL_eq, betw_self _ _ h0 h1, first_runs _ _ (by omega), List.filter_append, ops_split L k (by omega)]
  obtain ⟨A, hA⟩ : ∃ A, A = (runN k (L.length - k)).filter (goodE L) := ⟨_, rfl⟩
  obtain ⟨B, hB⟩ : ∃ B, B = (runN 0 k).filter (goodE L) := ⟨_, rfl⟩
  rw [← hA, ← hB, List.find?_append, List.find?_eq_none.2 (fun o ho => by
    rw [hB] at ho
    have := (mem_runN.1 (List.mem_filter.1 ho).1)
    simp; omega)]
  cases A with
  | nil => simp
  | cons x xs =>
    have hx : (k : Int) ≤ x := by
      have : x ∈ (runN k (L.length - k)).filter (goodE L) := by rw [← hA]; simp
      have := (mem_runN.1 (List.mem_filter.1 this).1)
      omega
    simp [List.find?, hx, headN]
/-! ### From a place back -/
def backP (n : Nat) (q : Int) : List Int := (List.range n).map fun i : Nat => mv n q (-(i : Int))
theorem backP_runs (n q : Nat) (h : q < n) : backP n q = (runN 0 (q + 1)).reverse ++ (runN (q + 1) (n - q - 1)).reverse := by
  have e : n = (q + 1) + (n - q - 1) := by omega
  have h3 : ∀ i : Nat, mv (n : Int) q (-(i : Int)) = ((q : Int) - i) % n := by
    intro i; unfold mv; rw [if_neg (by omega)]; congr 1
  unfold backP
  simp only [h3]
  conv => lhs; rw [show List.range n = List.range ((q + 1) + (n - q - 1)) by rw [← e]]
  rw [List.range_add, List.map_append, List.map_map]
  have hrev : ∀ a m : Nat, (runN a m).reverse = (List.range m).map fun i : Nat => ((a + (m - 1 - i) : Nat) : Int) := by
    intro a m
    refine List.ext_getElem (by simp [runN]) (fun i h1 h2 => ?_)
    rw [List.getElem_reverse]
    simp [runN]
  rw [hrev, hrev]
  congr 1
  · refine List.map_congr_left fun i hi => ?_
    have := List.mem_range.1 hi
    rw [Int.emod_eq_of_lt (by omega) (by omega)]; omega
  · refine List.map_congr_left fun i hi => ?_
    have := List.mem_range.1 hi
    simp only [Function.comp_apply]
    rw [← Int.add_emod_right, Int.emod_eq_of_lt (by omega) (by omega)]; omega
/-- The last one up to a number, or the last. -/
def prevO (n : Int) (os : List Int) (q : Int) : Int := match os.reverse.find? (fun o => decide (o ≤ q)) with | some o => mv n o 1 | none => headN n os.reverse
theorem prev_eq {L : List Cl} {q : Int} (h0 : 0 ≤ q) (h1 : q < L.length) : firstEL L (backP L.length q) = prevO L.length (opsL L) q := by
  obtain ⟨k, rfl⟩ : ∃ k : Nat, q = k := ⟨q.toNat, by omega⟩
  unfold prevO
  rw [firstEL_eq, backP_runs _ _ (by omega), List.filter_append, ops_split L (k + 1) (by omega), List.filter_reverse, List.filter_reverse, List.reverse_append]
  rw [show L.length - (k + 1) = L.length - k - 1 by omega]
  obtain ⟨A, hA⟩ : ∃ A, A = ((runN 0 (k + 1)).filter (goodE L)).reverse := ⟨_, rfl⟩
  obtain ⟨B, hB⟩ : ∃ B, B = ((runN (k + 1) (L.length - k - 1)).filter (goodE L)).reverse := ⟨_, rfl⟩
  rw [← hA, ← hB, List.find?_append, List.find?_eq_none.2 (fun o ho => by
    rw [hB, List.mem_reverse] at ho
    have := (mem_runN.1 (List.mem_filter.1 ho).1)
    simp; omega)]
  cases A with
  | nil => simp
  | cons x xs =>
    have hx : x ≤ (k : Int) := by
      have : x ∈ ((runN 0 (k + 1)).filter (goodE L)).reverse := by rw [← hA]; simp
      rw [List.mem_reverse] at this
      have := (mem_runN.1 (List.mem_filter.1 this).1)
      omega
    simp [List.find?, hx, headN]
/-! ### Next of a rising row, and ahead -/
theorem pair_get {os : List Int} (hp : os.Pairwise (· < ·)) {i j : Nat} {x y : Int} (hi : os[i]? = some x) (hj : os[j]? = some y) (h : i < j) : x < y := by
  obtain ⟨h1, rfl⟩ := List.getElem?_eq_some_iff.1 hi
  obtain ⟨h2, rfl⟩ := List.getElem?_eq_some_iff.1 hj
  exact List.pairwise_iff_getElem.1 hp i j h1 h2 h
theorem find_ge {os : List Int} (hp : os.Pairwise (· < ·)) {j : Nat} {x : Int} (hj : os[j]? = some x) {a : Int} (ha : a ≤ x) (hlo : ∀ i y, i < j → os[i]? = some y → y < a) : os.find? (fun o => decide (a ≤ o)) = some x := by
  have hl : j < os.length := (List.getElem?_eq_some_iff.1 hj).1
  have e : os = os.take j ++ x :: os.drop (j + 1) := by
    obtain ⟨_, rfl⟩ := List.getElem?_eq_some_iff.1 hj
    rw [← List.drop_eq_getElem_cons hl, List.take_append_drop]
  rw [e, List.find?_append, List.find?_eq_none.2 (fun y hy => by
    obtain ⟨i, hi, rfl⟩ := List.mem_iff_getElem.1 hy
    have hi' : i < j := by simp at hi; omega
    have hg : (os.take j)[i] = os[i]'(by omega) := List.getElem_take
    have := hlo i _ hi' (List.getElem?_eq_getElem (by omega))
    rw [hg]
    simpa using this)]
  simp [List.find?, ha]
theorem find_ge_none {os : List Int} {a : Int} (h : ∀ y ∈ os, y < a) : os.find? (fun o => decide (a ≤ o)) = none :=
  List.find?_eq_none.2 fun y hy => by simpa using h y hy
/-- The first one behind the j-th. -/
theorem next_get {os : List Int} (hp : os.Pairwise (· < ·)) {j : Nat} {x : Int} (hj : os[j]? = some x) : os.find? (fun o => decide (x + 1 ≤ o)) = os[j + 1]? := by
  cases hn : os[j + 1]? with
  | some y =>
    refine find_ge hp hn (by have := pair_get hp hj hn (by omega); omega) (fun i z hi hz => ?_)
    rcases Nat.lt_or_ge i j with h | h
    · have := pair_get hp hz hj h; omega
    · obtain rfl : i = j := by omega
      rw [hj] at hz; cases hz; omega
  | none =>
    refine find_ge_none fun y hy => ?_
    obtain ⟨i, hi, rfl⟩ := List.mem_iff_getElem.1 hy
    have hl := List.getElem?_eq_none_iff.1 hn
    rcases Nat.lt_or_ge i j with h | h
    · have := pair_get hp (List.getElem?_eq_getElem hi) hj h; omega
    · obtain rfl : i = j := by omega
      rw [List.getElem?_eq_getElem hi] at hj; cases hj; omega
theorem prev_get {os : List Int} (hp : os.Pairwise (· < ·)) {j : Nat} {x : Int} (hj : os[j]? = some x) : os.reverse.find? (fun o => decide (o ≤ x - 1)) = (if j = 0 then none else os[j - 1]?) := by
  have hl : j < os.length := (List.getElem?_eq_some_iff.1 hj).1
  have e : os = os.take j ++ os.drop j := (List.take_append_drop _ _).symm
  conv => lhs; rw [e]
  rw [List.reverse_append, List.find?_append, List.find?_eq_none.2 (fun y hy => by
    rw [List.mem_reverse] at hy
    obtain ⟨i, hi, rfl⟩ := List.mem_iff_getElem.1 hy
    rw [List.getElem_drop]
    have hi' : j + i < os.length := by simp at hi; omega
    rcases Nat.eq_zero_or_pos i with rfl | h
    · simp only [Nat.add_zero]
      rw [List.getElem?_eq_getElem hl] at hj
      cases hj; simp; omega
    · have := pair_get hp hj (List.getElem?_eq_getElem hi') (by omega)
      simp; omega)]
  by_cases h0 : j = 0
  · subst h0; simp
  · rw [if_neg h0]
    obtain ⟨i, rfl⟩ : ∃ i, j = i + 1 := ⟨j - 1, by omega⟩
    have hi : i < os.length := by omega
    have hx := pair_get hp (List.getElem?_eq_getElem hi) hj (by omega)
    have hd : os[i] ≤ x - 1 := by omega
    rw [List.take_succ_eq_append_getElem hi, show (os.take i ++ [os[i]]).reverse = os[i] :: (os.take i).reverse by simp]
    simp [List.find?, hd, List.getElem?_eq_getElem hi]
/-- Where one stands at the j-th open field's first place. -/
theorem mv_pos {n a b : Int} (h : 0 < n) : mv n a b = (a + b) % n := by unfold mv; rw [if_neg (by omega)]
theorem next_step {n : Int} {os : List Int} (hp : os.Pairwise (· < ·)) (hb : ∀ y ∈ os, 0 ≤ y ∧ y < n) {j : Nat} {x y : Int} (hj : os[j]? = some x) (hy : os[(j + 1) % os.length]? = some y) : nextO n os (mv n x 1) = mv n y 1 := by
  have hl : j < os.length := (List.getElem?_eq_some_iff.1 hj).1
  have hx := hb x (List.mem_of_getElem? hj)
  by_cases he : x + 1 < n
  · rw [mv_pos (a := x) (by omega), Int.emod_eq_of_lt (by omega) he]
    unfold nextO
    rw [next_get hp hj]
    by_cases h : j + 1 < os.length
    · rw [Nat.mod_eq_of_lt h] at hy
      rw [hy]
    · have h' : j + 1 = os.length := by omega
      rw [h', Nat.mod_self] at hy
      rw [List.getElem?_eq_none (by omega)]
      show headN n os = _
      unfold headN
      rw [List.head?_eq_getElem?, hy]
  · have hx1 : x + 1 = n := by omega
    have h0 : mv n x 1 = 0 := by rw [mv_pos (by omega), hx1, Int.emod_self]
    have h' : j + 1 = os.length := by
      rcases Nat.lt_or_ge (j + 1) os.length with h | h
      · have h1 := pair_get hp hj (List.getElem?_eq_getElem h) (by omega)
        have h2 := hb _ (List.mem_of_getElem? (List.getElem?_eq_getElem h))
        omega
      · omega
    rw [h', Nat.mod_self] at hy
    rw [h0]
    unfold nextO
    rw [find_ge (j := 0) hp hy (hb y (List.mem_of_getElem? hy)).1 (fun i z hi => by omega)]
theorem prev_step {n : Int} {os : List Int} (hp : os.Pairwise (· < ·)) (hb : ∀ y ∈ os, 0 ≤ y ∧ y < n) {j : Nat} {x y : Int} (hj : os[j]? = some x) (hy : os[(j + (os.length - 1)) % os.length]? = some y) : prevO n os (mv n (mv n x 1) (-2)) = mv n y 1 := by
  have hl : j < os.length := (List.getElem?_eq_some_iff.1 hj).1
  have hx := hb x (List.mem_of_getElem? hj)
  have hq : mv n (mv n x 1) (-2) = (x - 1) % n := by
    have hn : 0 < n := by omega
    rw [mv_pos hn, mv_pos hn, Int.emod_add_emod]; congr 1; omega
  rw [hq]
  have hlast : ∀ z, os[os.length - 1]? = some z → headN n os.reverse = mv n z 1 := by
    intro z hz
    unfold headN
    rw [List.head?_reverse, List.getLast?_eq_getElem?, hz]
  by_cases h0 : x = 0
  · subst h0
    have hj0 : j = 0 := by
      rcases Nat.eq_zero_or_pos j with h | h
      · exact h
      · obtain ⟨z, hz⟩ : ∃ z, os[0]? = some z := ⟨_, List.getElem?_eq_getElem (by omega)⟩
        have h1 := pair_get hp hz hj h
        have h2 := hb z (List.mem_of_getElem? hz)
        omega
    subst hj0
    rw [Nat.zero_add, Nat.mod_eq_of_lt (by omega)] at hy
    have hm1 : (0 - 1 : Int) % n = n - 1 := by
      rw [← Int.add_emod_right, show (0 - 1 + n : Int) = n - 1 by omega]; exact Int.emod_eq_of_lt (by omega) (by omega)
    rw [hm1]
    unfold prevO
    have hne : os ≠ [] := fun e => by rw [e] at hl; simp at hl
    have hr : os.reverse.head? = some y := by rw [List.head?_reverse, List.getLast?_eq_getElem?, hy]
    cases hrev : os.reverse with
    | nil => rw [hrev] at hr; cases hr
    | cons z zs =>
      rw [hrev] at hr
      obtain rfl : z = y := by simpa using hr
      have := hb z (List.mem_of_getElem? hy)
      simp [List.find?, show z ≤ n - 1 by omega]
  · rw [Int.emod_eq_of_lt (by omega) (by omega)]
    unfold prevO
    rw [prev_get hp hj]
    by_cases hj0 : j = 0
    · subst hj0
      rw [Nat.zero_add, Nat.mod_eq_of_lt (by omega)] at hy
      rw [if_pos rfl]
      exact hlast _ hy
    · rw [show j + (os.length - 1) = (j - 1) + os.length by omega, Nat.add_mod_right, Nat.mod_eq_of_lt (by omega)] at hy
      rw [if_neg hj0, hy]
/-! ### Fields -/
theorem good_k {L : List Cl} {s : Int} (hs : (atL L s).st = true) : decide (0 < (begF L s).k) = !(atL L (mv L.length s 1)).st := by
  obtain ⟨h0, h1⟩ := ca_st hs
  obtain ⟨j, hj, ha, hjs, hmin⟩ := aft_min h0 h1 hs
  rw [begF_len h0 h1 hj ha]
  have e : step L.length (s + 1) 0 = mv L.length s 1 := by rw [mv_pos (by omega)]; unfold step; congr 1; omega
  cases j with
  | zero => rw [e] at hjs; rw [hjs]; simp
  | succ j => rw [← e, hmin 0 (by omega)]; simp
theorem goodF_eq {L : List Cl} {s : Int} (hs : (atL L s).st = true) : goodF (begF L s) = goodE L s := by
  unfold goodF goodE
  rw [good_k hs, hs]
  show (!(atL L (mv L.length s 1)).st && !Attr.prot ((atL L s).b % 64)) = _
  rw [prot_mod]
  cases (atL L (mv L.length s 1)).st <;> cases Attr.prot (atL L s).b <;> rfl
theorem runN_succ (a k : Nat) : runN a (k + 1) = runN a k ++ [((a + k : Nat) : Int)] := by
  unfold runN; rw [List.range_succ, List.map_append]; rfl
theorem ops_all (L : List Cl) : ((allL L).filter goodF).map (·.s) = opsL L := by
  have key : ∀ N : Nat, ((allK L (fun _ => L) N).filter goodF).map (·.s) = (runN 0 N).filter (goodE L) := by
    intro N
    induction N with
    | zero => rfl
    | succ N ih =>
      rw [runN_succ, List.filter_append, ← ih, Nat.zero_add]
      cases hs : (atL L N).st with
      | true =>
        rw [allK_succ_yes hs, List.filter_append, List.map_append]
        congr 1
        simp only [List.filter, goodF_eq hs]
        cases goodE L N <;> rfl
      | false =>
        rw [allK_succ_no hs]
        have : goodE L N = false := by unfold goodE; rw [hs]; rfl
        simp [this]
  exact key L.length
theorem home_ops (L : List Cl) : homeL L = headN L.length (opsL L) := by
  unfold homeL headN
  rw [← ops_all, ← List.head?_filter]
  cases (allL L).filter goodF with
  | nil => rfl
  | cons f fs => rfl
/-- The cell behind an open field's attribute is its first one. -/
theorem bef_first {L : List Cl} {s : Int} (hs : (atL L s).st = true) (hn : (atL L (mv L.length s 1)).st = false) : befL L (mv L.length s 1) = s := by
  obtain ⟨h0, h1⟩ := ca_st hs
  have hk := good_k hs
  rw [hn] at hk
  have hk' : 0 < (begF L s).k := by simpa using hk
  have e : step L.length s 1 = mv L.length s 1 := by rw [mv_pos (by omega)]; rfl
  rw [← e]
  exact bef_in h0 h1 hs (i := 1) (by omega)
theorem opn_first {L : List Cl} {s : Int} (h : goodE L s = true) : opnL L (mv L.length s 1) = true := by
  obtain ⟨h1, h2, h3⟩ := good_st h
  have hr := ca_st h1
  have hb := bef_first h1 h3
  have hne : s ≠ mv L.length s 1 := fun e => by rw [← e, h1] at h3; cases h3
  have hbd : 0 ≤ mv L.length s 1 ∧ mv L.length s 1 < L.length := by
    rw [mv_pos (by omega)]; exact ⟨Int.emod_nonneg _ (by omega), Int.emod_lt_of_pos _ (by omega)⟩
  unfold opnL inL
  rw [hb, h2]
  simp [hne, hbd]
/-- One step on the field stays, if no attribute stands there. -/
theorem bef_step {L : List Cl} {y : Int} (h0 : 0 ≤ y) (h1 : y < L.length) (hn : (atL L (mv L.length y 1)).st = false) : befL L (mv L.length y 1) = befL L y := by
  obtain ⟨n, hnn⟩ : ∃ n, L.length = n + 1 := ⟨L.length - 1, by omega⟩
  obtain ⟨z, hz⟩ : ∃ z, z = mv L.length y 1 := ⟨_, rfl⟩
  rw [← hz] at hn ⊢
  have hz' : z = (y + 1) % ((n + 1 : Nat) : Int) := by rw [hz, mv_pos (by omega), hnn]
  have hzb : 0 ≤ z ∧ z < L.length := by
    rw [hz', hnn]; exact ⟨Int.emod_nonneg _ (by omega), Int.emod_lt_of_pos _ (by omega)⟩
  have e1 : backK (n + 1) z (n + 1) = z :: backK (n + 1) y n := by
    unfold backK
    rw [List.range_succ_eq_map, List.map_cons, List.map_map]
    congr 1
    · rw [show z - ((0 : Nat) : Int) = z by omega]; exact Int.emod_eq_of_lt hzb.1 (by rw [← hnn]; exact hzb.2)
    · refine List.map_congr_left fun i hi => ?_
      simp only [Function.comp_apply]
      rw [hz', Int.emod_sub_emod]; congr 1; omega
  have e2 : backK (n + 1) y (n + 1) = backK (n + 1) y n ++ [z] := by
    rw [backK_succ, hz']
    congr 2
    rw [← Int.add_emod_right]; congr 1; omega
  unfold befL backL
  rw [if_pos (by simp [inL]; omega), if_pos (by simp [inL]; omega), hnn, e1, e2]
  unfold firstL
  rw [List.find?_append]
  simp [List.find?, hn]
theorem good_opn {L : List Cl} {y : Int} (h0 : 0 ≤ y) (h1 : y < L.length) : opnL L (mv L.length y 1) = (goodE L y || (opnL L y && !(atL L (mv L.length y 1)).st)) := by
  have hbd : 0 ≤ mv L.length y 1 ∧ mv L.length y 1 < L.length := by
    rw [mv_pos (by omega)]; exact ⟨Int.emod_nonneg _ (by omega), Int.emod_lt_of_pos _ (by omega)⟩
  cases hn : (atL L (mv L.length y 1)).st with
  | true =>
    rw [open_self hbd.1 hbd.2 hn]
    unfold goodE
    simp [hn]
  | false =>
    have hb := bef_step h0 h1 hn
    cases hs : (atL L y).st with
    | true =>
      cases hg : goodE L y with
      | true => rw [opn_first hg]; rfl
      | false =>
        rw [open_self h0 h1 hs]
        have hp : Attr.prot (atL L y).b = true := by
          unfold goodE at hg
          rw [hs, hn] at hg
          simpa using hg
        unfold opnL
        rw [hb, bef_self h0 h1 hs, hp]
        have : (y == -1) = false := by simp; omega
        simp [this]
    | false =>
      have hg : goodE L y = false := by unfold goodE; rw [hs]; rfl
      rw [hg]
      simp only [Bool.false_or, Bool.not_false, Bool.and_true]
      unfold opnL inL
      rw [hb]
      by_cases hb1 : befL L y = -1
      · simp [hb1, h0, h1, hbd]
      · have hst : (atL L (befL L y)).st = true := by
          unfold befL at hb1 ⊢
          rcases firstL_cases (L := L) (backL L.length y) with ⟨h, _⟩ | ⟨_, h⟩
          · exact absurd h hb1
          · exact h
        have n1 : befL L y ≠ y := fun e => by rw [e, hs] at hst; cases hst
        have n2 : befL L y ≠ mv L.length y 1 := fun e => by rw [e, hn] at hst; cases hst
        rw [show (befL L y != mv L.length y 1) = true by simpa using n2, show (befL L y != y) = true by simpa using n1]
        simp [h0, h1, hbd]
/-- If something may be typed somewhere, and there are fields, then one is open. -/
theorem opn_ops {L : List Cl} {y : Int} (ho : opnL L y = true) (hne : allL L ≠ []) : opsL L ≠ [] := by
  have hb : 0 ≤ y ∧ y < L.length := by
    unfold opnL inL at ho
    simp only [Bool.and_eq_true, decide_eq_true_eq] at ho
    exact ho.1
  obtain ⟨hm, hc⟩ := cover hb.1 hb.2 hne
  obtain ⟨s, s0, s1, hs, hf⟩ := mem_allL hm
  rw [hf, cellsF_eq s0 s1] at hc
  obtain ⟨d, hd, hda⟩ := List.mem_map.1 hc
  have hd' := List.mem_range.1 hd
  have hbef : befL L y = s := by
    rw [← hda]; exact bef_in s0 s1 hs (i := d) (by have := (begF_bd (L := L) (by omega) s).1; omega)
  unfold opnL at ho
  rw [hbef] at ho
  have hs1 : (s == -1) = false := by simp; omega
  rw [hs1] at ho
  simp only [Bool.false_or, Bool.and_eq_true, bne_iff_ne, ne_eq, Bool.not_eq_true'] at ho
  have hk : 0 < (begF L s).k := by
    rcases Nat.eq_zero_or_pos d with rfl | h
    · rw [step_at _ s0 s1] at hda
      exact absurd hda ho.2.1
    · omega
  have hg := good_k hs
  have hgo : goodE L s = true := by
    unfold goodE
    rw [hs, ho.2.2, ← hg]
    simp [hk]
  intro e
  have : s ∈ opsL L := mem_ops.2 ⟨⟨s0, s1⟩, hgo⟩
  rw [e] at this
  cases this
end Go.Proofs.Ytlcjiffnmpkndaa.Pl
