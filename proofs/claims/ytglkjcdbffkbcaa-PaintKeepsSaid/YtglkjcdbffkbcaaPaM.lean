/-
  What erasing, the program tab and repeating turn, plainly.
-/
import Derived.Test.YtglkjcdbffkbcaaPaL
namespace Go.Proofs.Ytglkjcdbffkbcaa.Pl
open Go.RowKit Go.Shelf Base
set_option linter.unusedVariables false
set_option linter.unusedSimpArgs false

/-- Whether something may be typed at a place of p's field that is no attribute. -/
def flagL (L : List Cl) (p : Int) : Bool := befL L p == -1 || !Attr.prot (atL L (befL L p)).b
theorem pback_head {n : Nat} {a : Int} (h0 : 0 ≤ a) (h1 : a < n) : backL n a = a :: (List.range (n - 1)).map fun i : Nat => (a - 1 - i) % (n : Int) := by
  unfold backL
  rw [if_pos (by simp [inL]; omega)]
  obtain ⟨m, rfl⟩ : ∃ m, n = m + 1 := ⟨n - 1, by omega⟩
  unfold backK
  rw [List.range_succ_eq_map, List.map_cons, List.map_map, show (a - (0 : Nat)) % ((m + 1 : Nat) : Int) = a from by rw [show a - ((0 : Nat) : Int) = a by omega]; exact Int.emod_eq_of_lt h0 h1]
  congr 1
  refine List.map_congr_left fun i _ => ?_
  show (a - ((i + 1 : Nat) : Int)) % _ = _
  congr 1; omega
theorem pback_last {n : Nat} {a : Int} (h0 : 0 ≤ a) (h1 : a < n) : backL n a = ((List.range (n - 1)).map fun i : Nat => (a - i) % (n : Int)) ++ [(a + 1) % (n : Int)] := by
  unfold backL
  rw [if_pos (by simp [inL]; omega)]
  obtain ⟨m, rfl⟩ : ∃ m, n = m + 1 := ⟨n - 1, by omega⟩
  unfold backK
  rw [List.range_succ, List.map_append]
  show _ ++ [(a - (m : Nat)) % ((m + 1 : Nat) : Int)] = _
  congr 2
  rw [show a - (m : Int) = a + 1 - ((m + 1 : Nat) : Int) by omega, Int.sub_emod_right]
theorem pbef_self {L : List Cl} {p : Int} (h0 : 0 ≤ p) (h1 : p < L.length) (hs : (atL L p).st = true) : befL L p = p := by
  unfold befL
  rw [pback_head h0 h1]
  unfold firstL
  rw [List.find?_cons, hs]; rfl
/-- The next place's attribute is the same, if it isn't one itself. -/
theorem pbef_next {L : List Cl} {p q : Int} (h0 : 0 ≤ p) (h1 : p < L.length) (hq : q = (p + 1) % (L.length : Int)) (hs : (atL L q).st = false) : befL L q = befL L p := by
  have q0 : 0 ≤ q := by rw [hq]; exact Int.emod_nonneg _ (by omega)
  have q1 : q < L.length := by rw [hq]; exact Int.emod_lt_of_pos _ (by omega)
  unfold befL
  rw [pback_head q0 q1, pback_last h0 h1, ← hq]
  have e : ((List.range (L.length - 1)).map fun i : Nat => (q - 1 - i) % (L.length : Int)) = (List.range (L.length - 1)).map fun i : Nat => (p - i) % (L.length : Int) := by
    refine List.map_congr_left fun i _ => ?_
    rw [hq, show (p + 1) % (L.length : Int) - 1 - (i : Int) = (p + 1) % (L.length : Int) - (1 + i) by omega, Int.emod_sub_emod]
    congr 1; omega
  rw [e]
  unfold firstL
  rw [List.find?_cons, hs, List.find?_append]
  cases (((List.range (L.length - 1)).map fun i : Nat => (p - i) % (L.length : Int)).find? fun p => (atL L p).st) with
  | some x => rfl
  | none => simp [hs]
theorem popen_self {L : List Cl} {p : Int} (h0 : 0 ≤ p) (h1 : p < L.length) (hs : (atL L p).st = true) : opnL L p = false := by
  unfold opnL
  rw [pbef_self h0 h1 hs]
  have : (p == -1) = false := by simp; omega
  simp [this]
theorem popen_flag {L : List Cl} {p : Int} (h0 : 0 ≤ p) (h1 : p < L.length) (hs : (atL L p).st = false) : opnL L p = flagL L p := by
  unfold opnL flagL
  have hi : inL L.length p = true := by simp [inL]; omega
  rw [hi]
  rcases firstL_cases (L := L) (backL L.length p) with ⟨h, _⟩ | ⟨h, h'⟩
  · have : befL L p = -1 := h
    simp [this]
  · have hne : befL L p ≠ p := by intro e; have h' : (atL L (befL L p)).st = true := h'; rw [e, hs] at h'; cases h'
    have hne2 : (befL L p != p) = true := by simpa using hne
    rw [hne2]; simp
theorem pprot_mod (x : Int) : Attr.prot (x % 64) = Attr.prot x := by
  unfold Attr.prot
  congr 1
  apply propext
  omega
theorem opn_flag {M : List Cl} {cur p : Int} {look : Cl} {laid : Bool} : (⟨M, cur, p, look, laid⟩ : Bs).opn = flagL M p := by
  unfold Bs.opn isF ofF flagL
  by_cases h : befL M p = -1
  · simp [h]
  · rw [if_neg h]
    have h1 : (befL M p != -1) = true := by simpa using h
    have h2 : (befL M p == -1) = false := by simpa using h
    show (!(befL M p != -1) || !Attr.prot ((atL M (befL M p)).b % 64)) = _
    rw [h1, h2, pprot_mod]; rfl
theorem first_mem {n p : Int} {k i : Nat} (h : i < k) : step n p i ∈ first n p k := List.mem_map.2 ⟨i, List.mem_range.2 h, rfl⟩
theorem first_not {n p : Int} {k : Nat} (h0 : 0 ≤ p) (h1 : p < n) (hk : (k : Int) < n) : step n p k ∉ first n p k := by
  intro h
  obtain ⟨i, hi, e⟩ := List.mem_map.1 h
  exact step_ne h0 h1 (List.mem_range.1 hi) hk e
/-- Erasing: what stands behind it. -/
theorem era_first {L : List Cl} {p : Int} (h0 : 0 ≤ p) (h1 : p < L.length) : ∀ k : Nat, (k : Int) ≤ L.length →
    (∀ i, atL (eraL L (flagL L p) (first L.length p k)).1 i = if i ∈ first L.length p k ∧ opnL L i = true then c0 else atL L i) ∧
    (eraL L (flagL L p) (first L.length p k)).1.length = L.length ∧ (eraL L (flagL L p) (first L.length p k)).2 = (match k with | 0 => flagL L p | j + 1 => flagL L (step L.length p j))
  | 0, _ => ⟨fun i => by simp [first, eraL], rfl, rfl⟩
  | k + 1, hk => by
    obtain ⟨e1, e2, e3⟩ := era_first h0 h1 k (by omega)
    have hb := step_bd (L.length : Int) p k (by omega)
    have hy : atL (eraL L (flagL L p) (first L.length p k)).1 (step L.length p k) = atL L (step L.length p k) := by
      rw [e1, if_neg (fun h => first_not h0 h1 (by omega) h.1)]
    have hmem : ∀ i, i ∈ first (L.length : Int) p (k + 1) ↔ i ∈ first (L.length : Int) p k ∨ i = step L.length p k := by
      intro i; rw [first_succ, List.mem_append, List.mem_singleton]
    rw [first_succ, eraL_snoc]
    rw [first_succ] at hmem
    obtain ⟨Z, hZ⟩ : ∃ Z, Z = eraL L (flagL L p) (first L.length p k) := ⟨_, rfl⟩
    rw [← hZ] at e1 e2 e3 hy ⊢
    obtain ⟨Z1, Z2⟩ := Z
    simp only at e1 e2 e3 hy
    unfold eraStep
    simp only
    rw [hy]
    obtain ⟨y, hyy⟩ : ∃ y, y = step (L.length : Int) p k := ⟨_, rfl⟩
    rw [← hyy] at hb hmem ⊢
    cases hst : (atL L y).st with
    | true =>
      rw [if_pos rfl]
      have ho := popen_self hb.1 hb.2 hst
      refine ⟨fun i => ?_, e2, ?_⟩
      · show atL Z1 i = _
        rw [e1]
        by_cases hi : i = y
        · subst hi
          rw [ho, if_neg (by simp), if_neg (by simp)]
        · simp only [hmem, hi, or_false]
      · show (!Attr.prot (atL L y).b) = flagL L y
        unfold flagL
        rw [pbef_self hb.1 hb.2 hst]
        have : (y == -1) = false := by simp; omega
        rw [this]; rfl
    | false =>
      rw [if_neg (by simp)]
      have hf : Z2 = flagL L y := by
        rw [e3]
        cases k with
        | zero => rw [hyy, step_zero _ _ h0 h1]
        | succ j =>
          show flagL L (step L.length p j) = _
          have hj := step_bd (L.length : Int) p j (by omega)
          have : befL L y = befL L (step L.length p j) := pbef_next hj.1 hj.2 (by
            rw [hyy]; have := step_succ (L.length : Int) p j (by omega); rw [← this]; unfold mv; rw [if_neg (by omega)]) hst
          unfold flagL; rw [this]
      have ho := popen_flag hb.1 hb.2 hst
      rw [← hf] at ho
      cases Z2 with
      | true =>
        rw [if_pos rfl]
        refine ⟨fun i => ?_, by show (setL Z1 y c0).length = _; rw [setL_length, e2], hf⟩
        show atL (setL Z1 y c0) i = _
        rw [atL_setL']
        by_cases hi : i = y
        · subst hi
          rw [if_pos ⟨rfl, hb.1, by rw [e2]; exact hb.2⟩, ho, if_pos ⟨(hmem _).2 (.inr rfl), rfl⟩]
        · rw [if_neg (fun h => hi h.1), e1]
          simp only [hmem, hi, or_false]
      | false =>
        rw [if_neg (by simp)]
        refine ⟨fun i => ?_, e2, hf⟩
        show atL Z1 i = _
        rw [e1]
        by_cases hi : i = y
        · subst hi
          rw [ho, if_neg (by simp), if_neg (by simp)]
        · simp only [hmem, hi, or_false]
theorem inn_ok {n a b : Int} (h0 : 0 ≤ a) (h1 : a < n) (h2 : 0 ≤ b) (h3 : b < n) : inn n a b = true := by unfold inn; simp; omega
theorem has_ok {L : List Cl} {a : Int} (h0 : 0 ≤ a) (h1 : a < L.length) : hasL L a = true := by unfold hasL; simp [h0, h1]
theorem tabWipe_st : ∀ (ps : List Int) (M : List Cl) (i : Int), (atL M i).st = true ∨ i ∉ ps → atL (tabWipe M ps) i = atL M i
  | [], M, i, _ => rfl
  | p :: ps, M, i, h => by
    unfold tabWipe
    cases hst : (atL M p).st with
    | true => rw [if_pos rfl]
    | false =>
      rw [if_neg (by simp)]
      have hip : i ≠ p := by
        intro e; subst e
        rcases h with h | h
        · rw [hst] at h; cases h
        · exact h (by simp)
      have e : atL (setL M p c0) i = atL M i := by rw [atL_setL', if_neg (fun h => hip h.1)]
      rw [tabWipe_st ps (setL M p c0) i (by rw [e]; rcases h with h | h; exact .inl h; exact .inr (fun hm => h (List.mem_cons_of_mem _ hm))), e]
theorem patL_fill (i : Int) (x : Cl) : ∀ (ps : List Int) (L : List Cl), (∀ p ∈ ps, 0 ≤ p ∧ p < L.length) → i ∈ ps → atL (fillL L ps x) i = x
  | [], L, _, h => by cases h
  | p :: ps, L, h, hi => by
    show atL (fillL (setL L p x) ps x) i = x
    by_cases h1 : i ∈ ps
    · exact patL_fill i x ps (setL L p x) (fun q hq => by rw [setL_length]; exact h q (by simp [hq])) h1
    · have hip : i = p := by rcases List.mem_cons.1 hi with e | e; exact e; exact absurd e h1
      have hp := h p (by simp)
      have keep : ∀ (qs : List Int) (M : List Cl), i ∉ qs → atL (fillL M qs x) i = atL M i := by
        intro qs
        induction qs with
        | nil => intro M _; rfl
        | cons q qs ih =>
          intro M hq
          show atL (fillL (setL M q x) qs x) i = _
          rw [ih _ (fun h => hq (by simp [h])), atL_setL', if_neg (fun h => hq (by simp [h.1]))]
      rw [keep ps _ h1, atL_setL', if_pos ⟨hip, hp.1, hp.2⟩]
/-- The three orders of the law. -/
theorem paint_eua {L : List Cl} {f z : Int} (f0 : 0 ≤ f) (f1 : f < L.length) (z0 : 0 ≤ z) (z1 : z < L.length) :
    ∃ M', paintB L 0 [⟨18, z, 0, false, [], []⟩] f = (⟨M', 0, z, c0, false⟩, 1, 0) ∧ ∀ i, atL M' i = if i ∈ first L.length f (many L.length f z) ∧ opnL L i = true then c0 else atL L i := by
  have hm := many_bd (L.length : Int) f z (inn_ok f0 f1 z0 z1)
  have he := (era_first f0 f1 (many L.length f z) hm.2).1
  refine ⟨_, ?_, he⟩
  rw [paintB_in _ (has_ok f0 f1), runB_cons]
  have hd : doB ⟨L, 0, f, c0, false⟩ ⟨18, z, 0, false, [], []⟩ = (⟨(eraL L (flagL L f) (first L.length f (many L.length f z))).1, 0, z, c0, false⟩, 0) := by
    have e1 : deedB ⟨L, 0, f, c0, false⟩ ⟨18, z, 0, false, [], []⟩ = ((⟨L, 0, f, c0, false⟩ : Bs).erase z, 0) := by
      show (if hasL L z then ((⟨L, 0, f, c0, false⟩ : Bs).erase z, (0 : Int)) else _) = _
      rw [if_pos (has_ok z0 z1)]
    unfold doB
    rw [if_pos (by rfl), e1]
    unfold Bs.erase
    rw [opn_flag]
    simp only
    unfold betw
    rw [if_pos (inn_ok f0 f1 z0 z1)]
    rfl
  rw [hd, if_pos rfl]; rfl
theorem paint_ra {L : List Cl} {f z y : Int} (f0 : 0 ≤ f) (f1 : f < L.length) (z0 : 0 ≤ z) (z1 : z < L.length) :
    ∃ M', paintB L 0 [⟨60, z, y, false, [], []⟩] f = (⟨M', 0, z, c0, false⟩, 1, 0) ∧ ∀ i, i ∈ first L.length f (many L.length f z) → atL M' i = ⟨y, false, false, 0, 0⟩ := by
  refine ⟨fillL L (first L.length f (many L.length f z)) ⟨y, false, false, 0, 0⟩, ?_, fun i hi => patL_fill i _ _ L (fun p hp => ?_) hi⟩
  · rw [paintB_in _ (has_ok f0 f1), runB_cons]
    have hd : doB ⟨L, 0, f, c0, false⟩ ⟨60, z, y, false, [], []⟩ = (⟨fillL L (first L.length f (many L.length f z)) ⟨y, false, false, 0, 0⟩, 0, z, c0, false⟩, 0) := by
      have e1 : deedB ⟨L, 0, f, c0, false⟩ ⟨60, z, y, false, [], []⟩ = ((⟨L, 0, f, c0, false⟩ : Bs).ra z y false, 0) := by
        show (if hasL L z then ((⟨L, 0, f, c0, false⟩ : Bs).ra z y false, (0 : Int)) else _) = _
        rw [if_pos (has_ok z0 z1)]
      unfold doB
      rw [if_pos (by rfl), e1]
      unfold Bs.ra
      simp only
      unfold betw
      rw [if_pos (inn_ok f0 f1 z0 z1)]
      rfl
    rw [hd, if_pos rfl]; rfl
  · obtain ⟨j, _, rfl⟩ := List.mem_map.1 hp
    exact step_bd _ _ _ (by omega)
theorem paint_pt {L : List Cl} {f y : Int} (f0 : 0 ≤ f) (f1 : f < L.length) :
    ∃ M' p', paintB L 0 [⟨0, 0, 0, false, [], [y]⟩, ⟨5, 0, 0, false, [], []⟩] f = (⟨M', 0, p', c0, false⟩, 2, 0) ∧ (∀ i, i ≠ f → (atL L i).st = true → atL M' i = atL L i) ∧ ∀ i, 0 ≤ i → i < f → f < (L.length : Int) - 1 → atL M' i = atL L i := by
  obtain ⟨M1, hM1⟩ : ∃ M1, M1 = setL L f ⟨y, false, false, 0, 0⟩ := ⟨_, rfl⟩
  have hl : M1.length = L.length := by rw [hM1, setL_length]
  have hat : ∀ i, i ≠ f → atL M1 i = atL L i := fun i hi => by rw [hM1, atL_setL', if_neg (fun h => hi h.1)]
  obtain ⟨p1, hp1⟩ : ∃ p1, p1 = mv (L.length : Int) f 1 := ⟨_, rfl⟩
  refine ⟨tabWipe M1 (betw M1.length p1 0), tabTo (tabWipe M1 (betw M1.length p1 0)) (betw M1.length p1 0), ?_, fun i hi hs => ?_, fun i h0 hi hn => ?_⟩
  · rw [paintB_in _ (has_ok f0 f1), runB_cons]
    have hd : doB ⟨L, 0, f, c0, false⟩ ⟨0, 0, 0, false, [], [y]⟩ = (⟨M1, 0, p1, c0, true⟩, 0) := by rw [hM1, hp1]; rfl
    rw [hd, if_pos rfl, runB_cons]
    have hd2 : doB ⟨M1, 0, p1, c0, true⟩ ⟨5, 0, 0, false, [], []⟩ = (⟨tabWipe M1 (betw M1.length p1 0), 0, tabTo (tabWipe M1 (betw M1.length p1 0)) (betw M1.length p1 0), c0, false⟩, 0) := rfl
    rw [hd2, if_pos rfl]; rfl
  · rw [tabWipe_st _ _ _ (.inl (by rw [hat i hi]; exact hs)), hat i hi]
  · rw [tabWipe_st _ _ _ (.inr ?_), hat i (by omega)]
    have hpe : p1 = f + 1 := by rw [hp1]; unfold mv; rw [if_neg (by omega)]; exact Int.emod_eq_of_lt (by omega) (by omega)
    intro hm
    rw [hl] at hm
    unfold betw at hm
    rw [if_pos (inn_ok (by omega) (by omega) (by omega) (by omega)), hpe] at hm
    obtain ⟨j, hj, e⟩ := List.mem_map.1 hm
    have hj := List.mem_range.1 hj
    unfold many at hj
    rw [if_pos (by omega)] at hj
    unfold step at e
    rw [Int.emod_eq_of_lt (by omega) (by omega)] at e
    omega
end Go.Proofs.Ytglkjcdbffkbcaa.Pl
