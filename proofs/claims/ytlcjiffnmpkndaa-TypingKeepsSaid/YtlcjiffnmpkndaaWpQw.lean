/-
  What wipe lets go, plainly: Open and Rest done twice, and what they leave.
-/
import Derived.Test.YtlcjiffnmpkndaaWpPw
namespace Go.Proofs.Ytlcjiffnmpkndaa.Pl
open Go.RowKit Go.Shelf Base
set_option linter.unusedVariables false
set_option linter.unusedSimpArgs false

theorem cl_ext {L M : List Cl} (hl : L.length = M.length) (h : ∀ i : Int, 0 ≤ i → i < L.length → atL L i = atL M i) : L = M := by
  refine List.ext_getElem hl (fun i h1 h2 => ?_)
  have := h i (by omega) (by omega)
  unfold atL at this
  rw [if_pos (by omega), if_pos (by omega)] at this
  simpa [List.getElem?_eq_getElem h1, List.getElem?_eq_getElem h2] using this
/-- The same attributes, as far as it matters where fields are, and what may be typed. -/
structure Kin (L M : List Cl) : Prop where
  st : ∀ i, (atL M i).st = (atL L i).st
  len : M.length = L.length
  pr : ∀ i, (atL L i).st = true → Attr.prot (atL M i).b = Attr.prot (atL L i).b
theorem Kin.bef {L M : List Cl} (h : Kin L M) (a : Int) : befL M a = befL L a := bef_st h.st h.len a
theorem Kin.aft {L M : List Cl} (h : Kin L M) (a : Int) : aftL M a = aftL L a := aft_st h.st h.len a
theorem bef_st_true {L : List Cl} {a : Int} (h : befL L a ≠ -1) : (atL L (befL L a)).st = true := by
  unfold befL at h ⊢
  rcases firstL_cases (L := L) (backL L.length a) with ⟨h1, _⟩ | ⟨_, h2⟩
  · exact absurd h1 h
  · exact h2
theorem Kin.opn {L M : List Cl} (h : Kin L M) (a : Int) : opnL M a = opnL L a := by
  unfold opnL
  rw [h.bef a, h.len]
  by_cases hb : befL L a = -1
  · rw [hb]; rfl
  · rw [h.pr _ (bef_st_true hb)]
theorem st_range {L : List Cl} {i : Int} (h : (atL L i).st = true) : 0 ≤ i ∧ i < L.length := by
  unfold atL at h
  split at h
  · assumption
  · cases h
theorem st_none {L : List Cl} (h : allL L = []) (i : Int) : (atL L i).st = false := by
  cases hs : (atL L i).st with
  | false => rfl
  | true =>
    obtain ⟨h0, h1⟩ := st_range hs
    rw [(stg L L.length).none h i h0 h1] at hs; cases hs
theorem all_st {L M : List Cl} (h : ∀ i, (atL M i).st = (atL L i).st) (hl : M.length = L.length) (hn : 1 ≤ L.length) : allL M = [] ↔ allL L = [] := by
  rw [← bef_none (L := M) (a := 0) (by omega) (by omega), ← bef_none (L := L) (a := 0) (by omega) (by omega), bef_st h hl]
/-- What Open begins with. -/
def open0 (L : List Cl) : List Cl := if befL L 0 = -1 then fillL L (betw L.length 0 0) c0 else L
def openL (L : List Cl) : List Cl := opP (open0 L) (allL (open0 L))
theorem open0_len (L : List Cl) : (open0 L).length = L.length := by unfold open0; split; exact fillL_length _ _ _; rfl
theorem mem_all (n : Nat) (i : Int) (h0 : 0 ≤ i) (h1 : i < n) : i ∈ betw n 0 0 := by
  have hin : inn (n : Int) 0 0 = true := decide_eq_true ⟨by omega, by omega, by omega, by omega⟩
  unfold betw
  rw [if_pos hin]
  refine List.mem_map.2 ⟨i.toNat, List.mem_range.2 ?_, ?_⟩
  · unfold many; split <;> omega
  · unfold step; rw [Int.emod_eq_of_lt (by omega) (by omega)]; omega
theorem open0_none {L : List Cl} (h : befL L 0 = -1) (i : Int) : atL (open0 L) i = c0 := by
  unfold open0
  rw [if_pos h, atL_fillw]
  by_cases hi : 0 ≤ i ∧ i < L.length
  · rw [if_pos ⟨mem_all _ i hi.1 hi.2, hi⟩]
  · rw [if_neg (fun h => hi h.2)]
    unfold atL; rw [if_neg hi]
theorem open0_st {L : List Cl} (hn : 1 ≤ L.length) (i : Int) : (atL (open0 L) i).st = (atL L i).st := by
  by_cases h : befL L 0 = -1
  · rw [open0_none h, st_none ((bef_none (by omega) (by omega)).1 h)]; rfl
  · unfold open0; rw [if_neg h]
theorem pre_all (L : List Cl) : ∀ f ∈ allL L, ∃ s : Int, 0 ≤ s ∧ s < L.length ∧ (atL L s).st = true ∧ f.s = s ∧ f.k = (begF L s).k := by
  intro f hf
  obtain ⟨s, h0, h1, h2, rfl⟩ := mem_allL hf
  exact ⟨s, h0, h1, h2, rfl, rfl⟩
theorem mem_ins {L : List Cl} {s : Int} (h0 : 0 ≤ s) (h1 : s < L.length) (i : Int) : i ∈ insP L.length (begF L s) ↔ ∃ e : Nat, 1 ≤ e ∧ e ≤ (begF L s).k.toNat ∧ i = step L.length s e := by
  rw [insP_eq h0 h1]
  constructor
  · intro h
    obtain ⟨e, he, rfl⟩ := List.mem_map.1 h
    have := List.mem_range.1 he
    exact ⟨e + 1, by omega, by omega, step_shift _ _ _⟩
  · rintro ⟨e, e1, e2, rfl⟩
    refine List.mem_map.2 ⟨e - 1, List.mem_range.2 (by omega), ?_⟩
    rw [step_shift, show e - 1 + 1 = e by omega]
/-- Where a place that is no attribute's stands in its field. -/
theorem in_field {L : List Cl} {a : Int} (h0 : 0 ≤ a) (h1 : a < L.length) (hs : (atL L a).st = false) (hne : allL L ≠ []) :
    ∃ (s : Int) (k d : Nat), s = befL L a ∧ 0 ≤ s ∧ s < L.length ∧ (atL L s).st = true ∧ (begF L s).k = k ∧ 1 ≤ d ∧ d ≤ k ∧ k < L.length ∧ a = step L.length s d ∧ aftL L a = step L.length (s + 1) k ∧ betw L.length a (aftL L a) = first L.length a (k + 1 - d) := by
  obtain ⟨hm, hc⟩ := cover h0 h1 hne
  have hb : befL L a ≠ -1 := fun h => hne ((bef_none h0 h1).1 h)
  obtain ⟨s, hse⟩ : ∃ s, s = befL L a := ⟨_, rfl⟩
  have hof : ofF L a = begF L s := by unfold ofF; rw [if_neg hb, ← hse]
  have hst : (atL L s).st = true := by rw [hse]; exact bef_st_true hb
  obtain ⟨s0, s1⟩ := st_range hst
  obtain ⟨j, hj, ha, hjs, hmin⟩ := aft_min s0 s1 hst
  have hk := begF_len s0 s1 hj ha
  rw [hof, cellsF_eq s0 s1, hk, Int.toNat_natCast] at hc
  obtain ⟨d, hd, hda⟩ := List.mem_map.1 hc
  have hd' := List.mem_range.1 hd
  have hd1 : 1 ≤ d := by
    rcases Nat.eq_zero_or_pos d with rfl | h
    · rw [step_at _ s0 s1] at hda
      rw [← hda, hst] at hs; cases hs
    · exact h
  have hstep : ∀ e : Nat, step L.length a e = step L.length s (d + e) := by
    intro e
    unfold step at hda ⊢
    rw [← hda, Int.emod_add_emod]; congr 1; push_cast; omega
  have haft : aftL L a = step L.length (s + 1) j := by
    unfold aftL placesL
    rw [if_pos (by simp [inL]; omega)]
    refine first_at (j := j - d) (by omega) ?_ hjs (fun i hi => ?_)
    · rw [step_shift, hstep, step_shift]; congr 1; omega
    · rw [step_shift, hstep, show d + (i + 1) = d + i + 1 by omega, ← step_shift]; exact hmin _ (by omega)
  refine ⟨s, j, d, hse, s0, s1, hst, hk, hd1, by omega, hj, hda.symm, haft, ?_⟩
  have hz : aftL L a = step L.length a (j + 1 - d) := by rw [haft, hstep, step_shift]; congr 1; omega
  have hzb := step_bd (L.length : Int) a (j + 1 - d) (by omega)
  have hin : inn (L.length : Int) a (step L.length a (j + 1 - d)) = true := decide_eq_true ⟨h0, h1, hzb.1, hzb.2⟩
  unfold betw
  rw [hz, if_pos hin]
  congr 1
  unfold many step
  by_cases hw : a + ((j + 1 - d : Nat) : Int) < L.length
  · rw [Int.emod_eq_of_lt (by omega) hw, if_neg (by omega)]; omega
  · rw [← Int.sub_emod_right, Int.emod_eq_of_lt (by omega) (by omega), if_pos (by omega)]; omega
theorem opn_in {L : List Cl} {a : Int} (h : opnL L a = true) : 0 ≤ a ∧ a < L.length := by
  unfold opnL inL at h
  simp only [Bool.and_eq_true, decide_eq_true_eq] at h
  exact h.1
theorem opn_st {L : List Cl} {a : Int} (h : opnL L a = true) : (atL L a).st = false := by
  cases hs : (atL L a).st with
  | false => rfl
  | true =>
    obtain ⟨h0, h1⟩ := st_range hs
    rw [open_self h0 h1 hs] at h; cases h
theorem opn_none {L : List Cl} (h : allL L = []) {i : Int} (h0 : 0 ≤ i) (h1 : i < L.length) : opnL L i = true := by
  unfold opnL
  rw [(bef_none h0 h1).2 h]
  simp [inL]; omega
theorem opn_field {L : List Cl} {i : Int} (h0 : 0 ≤ i) (h1 : i < L.length) (hs : (atL L i).st = false) (hne : allL L ≠ []) : opnL L i = !Attr.prot (atL L (befL L i)).b := by
  have hb : befL L i ≠ -1 := fun h => hne ((bef_none h0 h1).1 h)
  have hbi : befL L i ≠ i := by
    intro e
    have := bef_st_true hb
    rw [e, hs] at this; cases this
  have e1 : (befL L i == -1) = false := by simpa using hb
  have e2 : (befL L i != i) = true := by simpa using hbi
  unfold opnL
  rw [e1, e2]
  simp [inL]; omega
/-- Each cell behind Open. -/
theorem atL_openL {L : List Cl} {i : Int} (h0 : 0 ≤ i) (h1 : i < L.length) : atL (openL L) i = if opnL L i = true then c0 else if (atL L i).st = true ∧ Attr.prot (atL L i).b = false then modC (atL L i) false else atL L i := by
  have hn : 1 ≤ L.length := by omega
  by_cases hb : befL L 0 = -1
  · have hne := (bef_none (L := L) (a := 0) (by omega) (by omega)).1 hb
    have ha : allL (open0 L) = [] := (all_st (open0_st hn) (open0_len L) hn).2 hne
    unfold openL
    rw [ha, if_pos (opn_none hne h0 h1)]
    exact open0_none hb i
  · have hne : allL L ≠ [] := fun h => hb ((bef_none (by omega) (by omega)).2 h)
    have e : open0 L = L := by unfold open0; rw [if_neg hb]
    unfold openL
    rw [e, atL_opP i (allL L) L (pre_all L)]
    cases hs : (atL L i).st with
    | true =>
      rw [open_self h0 h1 hs]
      simp only [if_true, Bool.false_eq_true, if_false, true_and]
      have e1 : (∃ f ∈ allL L, f.s = i ∧ Attr.prot f.a = false) ↔ Attr.prot (atL L i).b = false := by
        constructor
        · rintro ⟨f, hf, h2, h3⟩
          obtain ⟨s, _, _, _, rfl⟩ := mem_allL hf
          rw [begF_s] at h2
          subst h2
          rwa [← prot_mod]
        · intro h
          exact ⟨begF L i, in_allL h0 h1 hs, rfl, by show Attr.prot ((atL L i).b % 64) = false; rwa [prot_mod]⟩
      simp only [e1]
    | false =>
      rw [opn_field h0 h1 hs hne]
      simp only [Bool.false_eq_true, if_false, false_and, Bool.not_eq_true']
      have e1 : (∃ f ∈ allL L, Attr.prot f.a = false ∧ i ∈ insP L.length f) ↔ Attr.prot (atL L (befL L i)).b = false := by
        constructor
        · rintro ⟨f, hf, h2, h3⟩
          have h4 : i ∈ cellsF L.length f := List.mem_cons_of_mem _ (List.mem_of_mem_take h3)
          obtain ⟨_, _, h5, _⟩ := mem_cells hf h4
          obtain ⟨s, _, _, _, rfl⟩ := mem_allL hf
          rw [h5]
          rwa [← prot_mod]
        · intro h
          obtain ⟨s, k, d, e1, s0, s1, s2, s3, d1, d2, k1, e2, _, _⟩ := in_field h0 h1 hs hne
          refine ⟨begF L s, in_allL s0 s1 s2, ?_, ?_⟩
          · show Attr.prot ((atL L s).b % 64) = false
            rw [prot_mod, e1]; exact h
          · exact (mem_ins s0 s1 i).2 ⟨d, d1, by rw [s3]; omega, e2⟩
      simp only [e1]
theorem opP_len (L : List Cl) (pre : List Fd) : (opP L pre).length = L.length := by
  unfold opP
  refine foldl_keep (P := fun M => M.length = L.length) L _ rfl (fun M f h => ?_) _
  unfold opS
  split
  · exact h
  · rw [modL_length]
    unfold clrL
    refine foldl_keep (P := fun K => K.length = L.length) M _ h (fun K p h => ?_) _
    split
    · exact h
    · exact (setL_length _ _ _).trans h
theorem openL_len (L : List Cl) : (openL L).length = L.length := by unfold openL; rw [opP_len, open0_len]
theorem atL_out {L : List Cl} {i : Int} (h : ¬ (0 ≤ i ∧ i < L.length)) : atL L i = c0 := by unfold atL; rw [if_neg h]
theorem open_kin (L : List Cl) : Kin L (openL L) := by
  refine ⟨fun i => ?_, openL_len L, fun i hs => ?_⟩
  · by_cases hi : 0 ≤ i ∧ i < L.length
    · rw [atL_openL hi.1 hi.2]
      split
      · next h => rw [opn_st h]; rfl
      · split
        · rfl
        · rfl
    · rw [atL_out hi, atL_out (by rw [openL_len]; exact hi)]
  · obtain ⟨h0, h1⟩ := st_range hs
    rw [atL_openL h0 h1, open_self h0 h1 hs]
    simp only [Bool.false_eq_true, if_false]
    split
    · show Attr.prot (Attr.modify (atL L i).b false) = _
      exact prot_modify _ _
    · rfl
theorem open_twice (L : List Cl) : openL (openL L) = openL L := by
  refine cl_ext (by rw [openL_len]) (fun i h0 h1 => ?_)
  rw [openL_len, openL_len] at h1
  have hK := open_kin L
  rw [atL_openL h0 (by rw [openL_len]; exact h1), hK.opn]
  by_cases ho : opnL L i = true
  · rw [if_pos ho, atL_openL h0 h1, if_pos ho]
  · rw [if_neg ho, atL_openL h0 h1, if_neg ho]
    split
    · next h =>
      split
      · rw [modC_idem]
      · next h2 =>
        exact absurd (show (modC (atL L i) false).st = true ∧ Attr.prot (Attr.modify (atL L i).b false) = false from ⟨h.1, by rw [prot_modify]; exact h.2⟩) h2
    · rfl
/-- What Open leaves. -/
theorem open_leaves {L : List Cl} {i : Int} (h0 : 0 ≤ i) (h1 : i < L.length) :
    ((atL L i).st = true → (atL (openL L) i).st = true ∧ Attr.modify (atL (openL L) i).b false = Attr.modify (atL L i).b false) ∧
    ((atL L i).st = false → opnL L i = false → atL (openL L) i = atL L i) ∧ (opnL L i = true → atL (openL L) i = c0) := by
  refine ⟨fun hs => ⟨(open_kin L).st i |>.trans hs, ?_⟩, fun hs ho => ?_, fun ho => ?_⟩
  · rw [atL_openL h0 h1, open_self h0 h1 hs]
    simp only [Bool.false_eq_true, if_false]
    split
    · show Attr.modify (Attr.modify (atL L i).b false) false = _
      exact modify_idem _ _ _
    · rfl
  · rw [atL_openL h0 h1, ho, hs]; simp
  · rw [atL_openL h0 h1, if_pos ho]
end Go.Proofs.Ytlcjiffnmpkndaa.Pl
