/-
  What Rest and Inside of package wipe leave, plainly.
-/
import Derived.Test.YtlcjiffnmpkndaaWpQw
namespace Go.Proofs.Ytlcjiffnmpkndaa.Pl
open Go.RowKit Go.Shelf Base
set_option linter.unusedVariables false
set_option linter.unusedSimpArgs false

theorem mark_len (L : List Cl) (a : Int) : (markL L a).length = L.length := by
  unfold markL; split; rfl; exact modL_length _ _ _
theorem mark_kin (L : List Cl) (a : Int) : Kin L (markL L a) := by
  refine ⟨fun i => ?_, mark_len L a, fun i hs => ?_⟩
  · unfold markL; split; rfl; exact modL_st _ _ _ _
  · unfold markL
    split
    · rfl
    · unfold modL
      rw [atL_setL]
      split
      · next h =>
        rw [h.1]
        show Attr.prot (Attr.modify (atL L (befL L a)).b true) = _
        exact prot_modify _ _
      · rfl
theorem atL_mark {L : List Cl} {a : Int} (i : Int) : atL (markL L a) i = if befL L a ≠ -1 ∧ i = befL L a then modC (atL L i) true else atL L i := by
  unfold markL
  by_cases hb : befL L a = -1
  · rw [if_pos hb, if_neg (fun h => h.1 hb)]
  · rw [if_neg hb]
    obtain ⟨h0, h1⟩ := st_range (bef_st_true hb)
    unfold modL
    rw [atL_setL]
    by_cases hi : i = befL L a
    · rw [if_pos ⟨hi, h0, h1⟩, if_pos ⟨hb, hi⟩, hi]
    · rw [if_neg (fun h => hi h.1), if_neg (fun h => hi h.2)]
theorem restP_form {L : List Cl} {a : Int} (ho : opnL L a = true) (hne : allL L ≠ []) : restP L a = betw L.length a (aftL L a) := by
  obtain ⟨h0, h1⟩ := opn_in ho
  have hb : befL L a ≠ -1 := fun h => hne ((bef_none h0 h1).1 h)
  unfold restP endL isF
  rw [mark_len, if_pos (by simpa using hb), (mark_kin L a).aft]
theorem restP_plain {L : List Cl} {a : Int} (ho : opnL L a = true) (hne : allL L = []) : restP L a = betw L.length a 0 := by
  obtain ⟨h0, h1⟩ := opn_in ho
  have hb : befL L a = -1 := (bef_none h0 h1).2 hne
  unfold restP endL isF
  rw [mark_len, if_neg (by rw [hb]; simp)]
/-- The cells that Rest lets go are open, of the same field; the first of them is the place's. -/
theorem restP_in {L : List Cl} {a : Int} (ho : opnL L a = true) : (∀ i ∈ restP L a, 0 ≤ i ∧ i < L.length ∧ (atL L i).st = false ∧ opnL L i = true ∧ befL L i = befL L a) ∧ a ∈ restP L a := by
  obtain ⟨h0, h1⟩ := opn_in ho
  by_cases hne : allL L = []
  · rw [restP_plain ho hne]
    have hin : inn (L.length : Int) a 0 = true := decide_eq_true ⟨h0, h1, by omega, by omega⟩
    unfold betw
    rw [if_pos hin]
    refine ⟨fun i hi => ?_, ?_⟩
    · obtain ⟨j, _, rfl⟩ := List.mem_map.1 hi
      have hb := step_bd (L.length : Int) a j (by omega)
      exact ⟨hb.1, hb.2, st_none hne _, opn_none hne hb.1 hb.2, by rw [(bef_none hb.1 hb.2).2 hne, (bef_none h0 h1).2 hne]⟩
    · refine List.mem_map.2 ⟨0, List.mem_range.2 ?_, step_at _ h0 h1⟩
      unfold many; split <;> omega
  · have hs := opn_st ho
    obtain ⟨s, k, d, e1, s0, s1, s2, s3, d1, d2, k1, e2, e3, e4⟩ := in_field h0 h1 hs hne
    rw [restP_form ho hne, e4]
    refine ⟨fun i hi => ?_, ?_⟩
    · obtain ⟨e, he, rfl⟩ := List.mem_map.1 hi
      have he := List.mem_range.1 he
      have hst : step L.length a e = step L.length s (d + e) := by
        unfold step at e2 ⊢
        rw [e2, Int.emod_add_emod]; congr 1; push_cast; omega
      have hb := step_bd (L.length : Int) a e (by omega)
      have hbe : befL L (step L.length a e) = s := by rw [hst]; exact bef_in s0 s1 s2 (by omega)
      have hns : (atL L (step L.length a e)).st = false := by
        refine ins_no s0 s1 s2 _ ?_
        exact (mem_ins s0 s1 _).2 ⟨d + e, by omega, by rw [s3]; omega, hst⟩
      refine ⟨hb.1, hb.2, hns, ?_, by rw [hbe, e1]⟩
      rw [opn_field hb.1 hb.2 hns hne, hbe, e1, ← opn_field h0 h1 hs hne]; exact ho
    · exact List.mem_map.2 ⟨0, List.mem_range.2 (by omega), step_at _ h0 h1⟩
theorem rest_len (L : List Cl) (a : Int) : (restL L a).length = L.length := by
  unfold restL; split
  · rw [fillL_length, mark_len]
  · rfl
theorem atL_rest {L : List Cl} {a i : Int} (ho : opnL L a = true) : atL (restL L a) i = if i ∈ restP L a then c0 else atL (markL L a) i := by
  unfold restL
  rw [if_pos ho, atL_fillw, mark_len]
  by_cases hi : i ∈ restP L a
  · have := (restP_in ho).1 i hi
    rw [if_pos ⟨hi, this.1, this.2.1⟩, if_pos hi]
  · rw [if_neg (fun h => hi h.1), if_neg hi]
theorem rest_no {L : List Cl} {a : Int} (ho : opnL L a = false) : restL L a = L ∧ restN L a = 0 := by
  unfold restL restN; rw [ho]; exact ⟨rfl, rfl⟩
theorem rest_kin (L : List Cl) (a : Int) : Kin L (restL L a) := by
  cases ho : opnL L a with
  | false => rw [(rest_no ho).1]; exact ⟨fun _ => rfl, rfl, fun _ _ => rfl⟩
  | true =>
    have hk := mark_kin L a
    refine ⟨fun i => ?_, rest_len L a, fun i hs => ?_⟩
    · rw [atL_rest ho]
      split
      · next h => rw [((restP_in ho).1 i h).2.2.1]; rfl
      · exact hk.st i
    · rw [atL_rest ho]
      split
      · next h => rw [((restP_in ho).1 i h).2.2.1] at hs; cases hs
      · exact hk.pr i hs
/-- What Rest leaves. -/
theorem rest_leaves {L : List Cl} {a i : Int} :
    ((atL L i).st = true → (atL (restL L a) i).st = true ∧ Attr.modify (atL (restL L a) i).b false = Attr.modify (atL L i).b false) ∧
    ((atL L i).st = false → opnL L i = false → atL (restL L a) i = atL L i) := by
  cases ho : opnL L a with
  | false => rw [(rest_no ho).1]; exact ⟨fun h => ⟨h, rfl⟩, fun _ _ => rfl⟩
  | true =>
    refine ⟨fun hs => ⟨((rest_kin L a).st i).trans hs, ?_⟩, fun hs hoi => ?_⟩
    · rw [atL_rest ho, if_neg (fun h => by rw [((restP_in ho).1 i h).2.2.1] at hs; cases hs), atL_mark]
      split
      · show Attr.modify (Attr.modify (atL L i).b true) false = _
        exact modify_idem _ _ _
      · rfl
    · rw [atL_rest ho, if_neg (fun h => by rw [((restP_in ho).1 i h).2.2.2.1] at hoi; cases hoi), atL_mark, if_neg ?_]
      rintro ⟨h1, h2⟩
      have := bef_st_true h1
      rw [← h2, hs] at this; cases this
theorem rest_num {L : List Cl} {a : Int} : (opnL L a = decide (0 < restN L a)) ∧ (opnL L a = true → atL (restL L a) a = c0) := by
  cases ho : opnL L a with
  | false => rw [(rest_no ho).2]; exact ⟨rfl, fun h => by cases h⟩
  | true =>
    have h := (restP_in ho).2
    refine ⟨?_, fun _ => by rw [atL_rest ho, if_pos h]⟩
    unfold restN
    rw [ho, if_pos rfl]
    have : 0 < (restP L a).length := List.length_pos_of_mem h
    symm
    simpa using this
theorem rest_twice (L : List Cl) (a : Int) : restL (restL L a) a = restL L a := by
  cases ho : opnL L a with
  | false => rw [(rest_no ho).1, (rest_no ho).1]
  | true =>
    have hk := rest_kin L a
    have ho2 : opnL (restL L a) a = true := by rw [hk.opn]; exact ho
    have hP : restP (restL L a) a = restP L a := by
      obtain ⟨h0, h1⟩ := opn_in ho
      by_cases hne : allL L = []
      · have hne2 : allL (restL L a) = [] := (all_st hk.st hk.len (by omega)).2 hne
        rw [restP_plain ho2 hne2, restP_plain ho hne, hk.len]
      · have hne2 : allL (restL L a) ≠ [] := fun h => hne ((all_st hk.st hk.len (by omega)).1 h)
        rw [restP_form ho2 hne2, restP_form ho hne, hk.len, hk.aft]
    refine cl_ext (by rw [rest_len]) (fun i h0 h1 => ?_)
    rw [atL_rest ho2, hP, atL_rest ho]
    by_cases hi : i ∈ restP L a
    · rw [if_pos hi, if_pos hi]
    · rw [if_neg hi, if_neg hi, atL_mark, hk.bef, atL_rest ho, if_neg hi, atL_mark]
      split
      · rw [modC_idem]
      · rfl
/-- Where a place stands behind its field's attribute. -/
def offL (n : Nat) (s i : Int) : Int := (i - s + n) % n
theorem off_step {n : Nat} {s : Int} {e : Nat} (h0 : 0 ≤ s) (h1 : s < n) (he : e < n) : offL n s (step n s e) = e := by
  unfold offL step
  rw [show (s + (e : Int)) % n - s + n = (s + (e : Int)) % n - (s - n) by omega, Int.emod_sub_emod, show s + (e : Int) - (s - n) = e + n by omega, Int.add_emod_right]
  exact Int.emod_eq_of_lt (by omega) (by omega)
/-- What Inside, and Rest, leave of a place's field. -/
theorem inside_leaves {L : List Cl} {a i : Int} (ha0 : 0 ≤ a) (ha1 : a < L.length) (hf : isF L a = true) (h0 : 0 ≤ i) (h1 : i < L.length) :
    ((befL L i = befL L a ∧ i ≠ befL L a) → atL (fillL L (insP L.length (ofF L a)) c0) i = c0) ∧
    (¬ (befL L i = befL L a ∧ i ≠ befL L a) → atL (fillL L (insP L.length (ofF L a)) c0) i = atL L i) ∧
    ((befL L i = befL L a ∧ i ≠ befL L a) → opnL L a = true → offL L.length (befL L a) a ≤ offL L.length (befL L a) i → atL (restL L a) i = c0) ∧
    (opnL L a = false → atL (restL L a) i = atL L i) ∧
    (¬ ((befL L i = befL L a ∧ i ≠ befL L a) ∧ offL L.length (befL L a) a ≤ offL L.length (befL L a) i) → i ≠ befL L a → atL (restL L a) i = atL L i) ∧
    ((insP L.length (ofF L a)).length : Int) = (ofF L a).k ∧ (opnL L a = true → restN L a = (ofF L a).k + 1 - offL L.length (befL L a) a) := by
  have hb : befL L a ≠ -1 := by unfold isF at hf; simpa using hf
  have hne : allL L ≠ [] := fun h => hb ((bef_none ha0 ha1).2 h)
  obtain ⟨s, hse⟩ : ∃ s, s = befL L a := ⟨_, rfl⟩
  have hof : ofF L a = begF L s := by unfold ofF; rw [if_neg hb, ← hse]
  have hst : (atL L s).st = true := by rw [hse]; exact bef_st_true hb
  obtain ⟨s0, s1⟩ := st_range hst
  obtain ⟨k, hk⟩ : ∃ k : Nat, (begF L s).k = k := by
    obtain ⟨j, hj, haf, _, _⟩ := aft_min s0 s1 hst
    exact ⟨j, begF_len s0 s1 hj haf⟩
  have hkn : k < L.length := by have := (begF_bd (L := L) (by omega) s).2; omega
  -- which places are the field's
  have hmine : (befL L i = s ∧ i ≠ s) ↔ ∃ e : Nat, 1 ≤ e ∧ e ≤ k ∧ i = step L.length s e := by
    constructor
    · rintro ⟨h2, h3⟩
      have hs : (atL L i).st = false := by
        cases hs : (atL L i).st with
        | false => rfl
        | true => exact absurd ((bef_self h0 h1 hs).symm.trans h2) h3
      obtain ⟨s', k', d, e1, _, _, _, s3, d1, d2, _, e2, _, _⟩ := in_field h0 h1 hs hne
      rw [h2] at e1
      subst e1
      rw [hk] at s3
      exact ⟨d, d1, by omega, e2⟩
    · rintro ⟨e, e1, e2, e3⟩
      refine ⟨by rw [e3]; exact bef_in s0 s1 hst (by omega), fun h => ?_⟩
      have : step L.length s e = step L.length s 0 := by rw [step_at _ s0 s1, ← e3, h]
      have := step_inj (by omega) (by omega) this
      omega
  rw [← hse, hof, hk]
  have hins : i ∈ insP L.length (begF L s) ↔ (befL L i = s ∧ i ≠ s) := by
    rw [hmine, mem_ins s0 s1, hk, Int.toNat_natCast]
  refine ⟨fun h => ?_, fun h => ?_, ?_⟩
  · rw [atL_fillw, if_pos ⟨hins.2 h, h0, h1⟩]
  · rw [atL_fillw, if_neg (fun g => h (hins.1 g.1))]
  have hoffa : ∀ (d : Nat), d < L.length → a = step L.length s d → offL L.length s a = d := fun d hd e => by rw [e]; exact off_step s0 s1 hd
  have hform : opnL L a = true → ∃ d : Nat, 1 ≤ d ∧ d ≤ k ∧ offL L.length s a = d ∧ restP L a = first L.length a (k + 1 - d) ∧ ∀ e : Nat, step L.length a e = step L.length s (d + e) := by
    intro ho
    obtain ⟨s', k', d, e1, _, _, _, s3, d1, d2, d3, e2, e3, e4⟩ := in_field ha0 ha1 (opn_st ho) hne
    rw [← hse] at e1
    subst e1
    rw [hk] at s3
    have hkk : k' = k := by omega
    subst hkk
    refine ⟨d, d1, d2, hoffa d (by omega) e2, by rw [restP_form ho hne, e4], fun e => ?_⟩
    unfold step at e2 ⊢
    rw [e2, Int.emod_add_emod]; congr 1; push_cast; omega
  refine ⟨fun hm ho hle => ?_, fun ho => by rw [(rest_no ho).1], fun hm hi => ?_, ?_, fun ho => ?_⟩
  · obtain ⟨d, d1, d2, hoff, hP, hstep⟩ := hform ho
    obtain ⟨e, e1, e2, e3⟩ := hmine.1 hm
    rw [hoff, e3, off_step s0 s1 (by omega)] at hle
    rw [atL_rest ho, if_pos ?_]
    rw [hP]
    refine List.mem_map.2 ⟨e - d, List.mem_range.2 (by omega), ?_⟩
    rw [hstep, e3]; congr 1; omega
  · cases ho : opnL L a with
    | false => rw [(rest_no ho).1]
    | true =>
      obtain ⟨d, d1, d2, hoff, hP, hstep⟩ := hform ho
      rw [atL_rest ho, if_neg ?_, atL_mark, if_neg (fun h => hi (h.2.trans hse.symm))]
      intro hin
      rw [hP] at hin
      obtain ⟨e, he, e3⟩ := List.mem_map.1 hin
      have he := List.mem_range.1 he
      rw [hstep] at e3
      refine hm ⟨hmine.2 ⟨d + e, by omega, by omega, e3.symm⟩, ?_⟩
      rw [hoff, ← e3, off_step s0 s1 (by omega)]; omega
  · rw [insP_eq s0 s1, first_length, hk]; rfl
  · obtain ⟨d, d1, d2, hoff, hP, hstep⟩ := hform ho
    unfold restN
    rw [ho, if_pos rfl, hP, first_length, hoff]; omega
end Go.Proofs.Ytlcjiffnmpkndaa.Pl
