/-
  What wipe lets go, plainly: the plane behind Open and behind Rest, cell by cell.
-/
import Derived.Test.YtlcjiffnmpkndaaFlUw
import Derived.Test.YtlcjiffnmpkndaaWpBw
namespace Go.Proofs.Ytlcjiffnmpkndaa.Pl
open Go.RowKit Go.Shelf Base
set_option linter.unusedVariables false
set_option linter.unusedSimpArgs false

theorem atL_fillw (i : Int) (x : Cl) : ∀ (ps : List Int) (L : List Cl), atL (fillL L ps x) i = if i ∈ ps ∧ 0 ≤ i ∧ i < L.length then x else atL L i
  | [], L => by simp [fillL]
  | p :: ps, L => by
    show atL (fillL (setL L p x) ps x) i = _
    rw [atL_fillw i x ps (setL L p x), setL_length, atL_setL L p x i]
    by_cases h1 : i ∈ ps ∧ 0 ≤ i ∧ i < L.length
    · rw [if_pos h1, if_pos ⟨by simp [h1.1], h1.2⟩]
    · rw [if_neg h1]
      by_cases h2 : i = p ∧ 0 ≤ p ∧ p < L.length
      · rw [if_pos h2, if_pos ⟨by simp [h2.1], by omega, by omega⟩]
      · rw [if_neg h2, if_neg ?_]
        rintro ⟨h3, h4⟩
        rcases List.mem_cons.1 h3 with rfl | h3
        · exact h2 ⟨rfl, h4⟩
        · exact h1 ⟨h3, h4⟩
/-- The cells at these places that are no attributes are gone. -/
def clrL (M : List Cl) (ps : List Int) : List Cl := ps.foldl (fun M p => if (atL M p).st then M else setL M p c0) M
theorem clrL_keeps (M : List Cl) (ps : List Int) (hB : BoL M) : (∀ i, (atL (clrL M ps) i).st = (atL M i).st) ∧ (clrL M ps).length = M.length ∧ BoL (clrL M ps) := by
  unfold clrL
  refine foldl_keep (P := fun K => (∀ i, (atL K i).st = (atL M i).st) ∧ K.length = M.length ∧ BoL K) M _ ⟨fun _ => rfl, rfl, hB⟩ (fun K p h => ?_) ps
  cases hs : (atL K p).st with
  | true => simpa using h
  | false =>
    simp only [Bool.false_eq_true, if_false]
    refine ⟨fun i => ?_, (setL_length _ _ _).trans h.2.1, fun i => ?_⟩
    · rw [atL_setL]
      split
      · next e => rw [← h.1 i, e.1, hs]; rfl
      · exact h.1 i
    · rw [atL_setL]
      split
      · exact ⟨by decide, by decide⟩
      · exact h.2.2 i
theorem atL_clr (i : Int) : ∀ (ps : List Int) (M : List Cl), atL (clrL M ps) i = if (i ∈ ps ∧ 0 ≤ i ∧ i < M.length) ∧ (atL M i).st = false then c0 else atL M i
  | [], M => by simp [clrL]
  | p :: ps, M => by
    show atL (clrL (if (atL M p).st then M else setL M p c0) ps) i = _
    cases hs : (atL M p).st with
    | true =>
      simp only [if_true]
      rw [atL_clr i ps M]
      by_cases h1 : (i ∈ ps ∧ 0 ≤ i ∧ i < M.length) ∧ (atL M i).st = false
      · rw [if_pos h1, if_pos ⟨⟨by simp [h1.1.1], h1.1.2⟩, h1.2⟩]
      · rw [if_neg h1, if_neg ?_]
        rintro ⟨⟨h3, h4⟩, h5⟩
        rcases List.mem_cons.1 h3 with rfl | h3
        · rw [hs] at h5; cases h5
        · exact h1 ⟨⟨h3, h4⟩, h5⟩
    | false =>
      simp only [Bool.false_eq_true, if_false]
      rw [atL_clr i ps (setL M p c0), setL_length, atL_setL M p c0 i]
      by_cases h2 : i = p ∧ 0 ≤ p ∧ p < M.length
      · rw [if_pos h2, if_pos (show ((i ∈ p :: ps ∧ 0 ≤ i ∧ i < M.length) ∧ (atL M i).st = false) from ⟨⟨by simp [h2.1], by omega, by omega⟩, by rw [h2.1]; exact hs⟩)]
        split <;> rfl
      · rw [if_neg h2]
        by_cases h1 : (i ∈ ps ∧ 0 ≤ i ∧ i < M.length) ∧ (atL M i).st = false
        · rw [if_pos h1, if_pos ⟨⟨by simp [h1.1.1], h1.1.2⟩, h1.2⟩]
        · rw [if_neg h1, if_neg ?_]
          rintro ⟨⟨h3, h4⟩, h5⟩
          rcases List.mem_cons.1 h3 with rfl | h3
          · exact h2 ⟨rfl, h4⟩
          · exact h1 ⟨⟨h3, h4⟩, h5⟩
theorem clrL_fill : ∀ (ps : List Int) (M : List Cl), (∀ p ∈ ps, (atL M p).st = false) → clrL M ps = fillL M ps c0
  | [], M, _ => rfl
  | p :: ps, M, h => by
    show clrL (if (atL M p).st then M else setL M p c0) ps = fillL (setL M p c0) ps c0
    rw [h p (by simp)]
    simp only [Bool.false_eq_true, if_false]
    refine clrL_fill ps _ (fun q hq => ?_)
    rw [atL_setL]
    split
    · rfl
    · exact h q (by simp [hq])
/-- Behind a field that was looked at by Open. -/
def opS (M : List Cl) (f : Fd) : List Cl := if Attr.prot f.a then M else modL (clrL M (insP M.length f)) f.s false
def opP (L : List Cl) : List Fd → List Cl := fun pre => pre.foldl opS L
def opN (n : Nat) (pre : List Fd) : Nat := (pre.map fun f => if Attr.prot f.a then 0 else (insP n f).length).sum
theorem opP_snoc (L : List Cl) (pre : List Fd) (f : Fd) : opP L (pre ++ [f]) = opS (opP L pre) f := by simp [opP, List.foldl_append]
theorem opN_snoc (n : Nat) (pre : List Fd) (f : Fd) : opN n (pre ++ [f]) = opN n pre + if Attr.prot f.a then 0 else (insP n f).length := by simp [opN]
theorem opS_keeps {M : List Cl} (hB : BoL M) (f : Fd) : (∀ i, (atL (opS M f) i).st = (atL M i).st) ∧ (opS M f).length = M.length ∧ BoL (opS M f) := by
  unfold opS
  split
  · exact ⟨fun _ => rfl, rfl, hB⟩
  · have h := clrL_keeps M (insP M.length f) hB
    exact ⟨fun i => (modL_st _ _ _ i).trans (h.1 i), (modL_length _ _ _).trans h.2.1, modL_bo h.2.2 _ _⟩
theorem opP_keeps (L : List Cl) (hB : BoL L) (pre : List Fd) : (∀ i, (atL (opP L pre) i).st = (atL L i).st) ∧ (opP L pre).length = L.length ∧ BoL (opP L pre) := by
  unfold opP
  refine foldl_keep (P := fun M => (∀ i, (atL M i).st = (atL L i).st) ∧ M.length = L.length ∧ BoL M) L _ ⟨fun _ => rfl, rfl, hB⟩ (fun M f h => ?_) pre
  have := opS_keeps h.2.2 f
  exact ⟨fun i => (this.1 i).trans (h.1 i), this.2.1.trans h.2.1, this.2.2⟩
theorem insP_len (n : Nat) (f : Fd) : (insP n f).length ≤ n := by unfold insP; rw [List.length_take]; omega
theorem opN_most (n : Nat) (pre : List Fd) : opN n pre ≤ pre.length * n := by
  induction pre with
  | nil => simp [opN]
  | cons f fs ih =>
    have := insP_len n f
    have e : opN n (f :: fs) = (if Attr.prot f.a then 0 else (insP n f).length) + opN n fs := by simp [opN]
    rw [e, List.length_cons, Nat.succ_mul]
    split <;> omega
theorem first_st {L M : List Cl} (h : ∀ i, (atL M i).st = (atL L i).st) (xs : List Int) : firstL M xs = firstL L xs := by
  unfold firstL
  congr 1
  congr 1
  funext p
  exact h p
theorem bef_st {L M : List Cl} (h : ∀ i, (atL M i).st = (atL L i).st) (hl : M.length = L.length) (s : Int) : befL M s = befL L s := by
  unfold befL; rw [hl]; exact first_st h _
theorem aft_st {L M : List Cl} (h : ∀ i, (atL M i).st = (atL L i).st) (hl : M.length = L.length) (s : Int) : aftL M s = aftL L s := by
  unfold aftL; rw [hl]; exact first_st h _
theorem begF_st {L M : List Cl} (h : ∀ i, (atL M i).st = (atL L i).st) (hl : M.length = L.length) (s : Int) : (begF M s).k = (begF L s).k := by
  show mv M.length (aftL M s) (-1 - s) = mv L.length (aftL L s) (-1 - s)
  rw [aft_st h hl, hl]
theorem insP_st {L M : List Cl} (h : ∀ i, (atL M i).st = (atL L i).st) (hl : M.length = L.length) (n : Nat) (s : Int) : insP n (begF M s) = insP n (begF L s) := by
  unfold insP
  rw [begF_s, begF_s, begF_st h hl]
theorem insP_eq {L : List Cl} {s : Int} (h0 : 0 ≤ s) (h1 : s < L.length) : insP L.length (begF L s) = first L.length (s + 1) (begF L s).k.toNat := by
  have hk := begF_bd (L := L) (by omega) s
  unfold insP placesL
  rw [begF_s, if_pos (by simp [inL]; omega), List.take_of_length_le (by rw [first_length]; omega)]
theorem ins_no {L : List Cl} {s : Int} (h0 : 0 ≤ s) (h1 : s < L.length) (hs : (atL L s).st = true) : ∀ x ∈ insP L.length (begF L s), (atL L x).st = false := by
  intro x hx
  obtain ⟨j, hj, ha, hjs, hmin⟩ := aft_min h0 h1 hs
  rw [insP_eq h0 h1, begF_len h0 h1 hj ha] at hx
  obtain ⟨i, hi, rfl⟩ := List.mem_map.1 hx
  exact hmin i (by simpa using List.mem_range.1 hi)
theorem ins_in {L : List Cl} {s : Int} (h0 : 0 ≤ s) (h1 : s < L.length) : ∀ x ∈ insP L.length (begF L s), 0 ≤ x ∧ x < L.length := by
  intro x hx
  rw [insP_eq h0 h1] at hx
  obtain ⟨i, hi, rfl⟩ := List.mem_map.1 hx
  exact step_bd _ _ _ (by omega)
theorem modify_idem (b : Int) (u v : Bool) : Attr.modify (Attr.modify b u) v = Attr.modify b v := by
  unfold Attr.modify; cases u <;> cases v <;> simp <;> omega
theorem prot_modify (b : Int) (u : Bool) : Attr.prot (Attr.modify b u) = Attr.prot b := by
  unfold Attr.prot Attr.modify
  congr 1
  apply propext
  cases u <;> simp <;> omega
theorem modC_idem (x : Cl) (u v : Bool) : modC (modC x u) v = modC x v := by
  unfold modC; simp only [modify_idem]
/-- Each cell of a plane whose fields were looked at by Open. -/
theorem atL_opP (i : Int) : ∀ (pre : List Fd) (L : List Cl), (∀ f ∈ pre, ∃ s : Int, 0 ≤ s ∧ s < L.length ∧ (atL L s).st = true ∧ f.s = s ∧ f.k = (begF L s).k) →
    atL (opP L pre) i = if (atL L i).st = true then (if ∃ f ∈ pre, f.s = i ∧ Attr.prot f.a = false then modC (atL L i) false else atL L i) else (if ∃ f ∈ pre, Attr.prot f.a = false ∧ i ∈ insP L.length f then c0 else atL L i)
  | [], L, _ => by simp [opP]
  | f :: pre, L, h => by
    show atL (opP (opS L f) pre) i = _
    obtain ⟨s, h0, h1, hs, hfs, hfk⟩ := h f (by simp)
    have hins : insP L.length f = insP L.length (begF L s) := by unfold insP; rw [begF_s, hfs, hfk]
    cases hp : Attr.prot f.a with
    | true =>
      have e : opS L f = L := by unfold opS; rw [hp]; rfl
      rw [e, atL_opP i pre L (fun g hg => h g (by simp [hg]))]
      have e1 : (∃ g ∈ f :: pre, g.s = i ∧ Attr.prot g.a = false) ↔ ∃ g ∈ pre, g.s = i ∧ Attr.prot g.a = false := by simp [hp]
      have e2 : (∃ g ∈ f :: pre, Attr.prot g.a = false ∧ i ∈ insP L.length g) ↔ ∃ g ∈ pre, Attr.prot g.a = false ∧ i ∈ insP L.length g := by simp [hp]
      simp only [e1, e2]
    | false =>
      have e : opS L f = modL (clrL L (insP L.length f)) f.s false := by unfold opS; rw [hp]; rfl
      have hst : ∀ i, (atL (opS L f) i).st = (atL L i).st := by
        intro i
        rw [e, modL_st, atL_clr]
        split
        · next h => exact h.2.symm
        · rfl
      have hcl : (clrL L (insP L.length f)).length = L.length := by
        unfold clrL
        refine foldl_keep (P := fun M => M.length = L.length) L _ rfl (fun M p h => ?_) _
        split
        · exact h
        · exact (setL_length _ _ _).trans h
      have hl : (opS L f).length = L.length := by rw [e, modL_length, hcl]
      rw [atL_opP i pre (opS L f) (fun g hg => by
        obtain ⟨t, t0, t1, ts, tf, tk⟩ := h g (by simp [hg])
        exact ⟨t, t0, by omega, (hst t).trans ts, tf, tk.trans (begF_st hst hl t).symm⟩), hst, hl]
      have at_ : atL (opS L f) i = if i = s then modC (atL L i) false else if i ∈ insP L.length f ∧ (atL L i).st = false then c0 else atL L i := by
        rw [e]
        unfold modL
        rw [atL_setL, hcl, hfs]
        by_cases his : i = s
        · rw [if_pos ⟨his, h0, h1⟩, if_pos his, atL_clr, if_neg (by rw [hs]; simp), his]
        · rw [if_neg (fun h => his h.1), if_neg his, atL_clr]
          by_cases hi : i ∈ insP L.length f ∧ (atL L i).st = false
          · rw [if_pos hi, if_pos ⟨⟨hi.1, ins_in h0 h1 i (hins ▸ hi.1)⟩, hi.2⟩]
          · rw [if_neg hi, if_neg (fun h => hi ⟨h.1.1, h.2⟩)]
      rw [at_]
      cases hsi : (atL L i).st with
      | true =>
        simp only [if_true]
        rw [if_neg (show ¬ (i ∈ insP L.length f ∧ true = false) by simp)]
        by_cases his : i = s
        · rw [if_pos his, modC_idem]
          rw [if_pos (show ∃ g ∈ f :: pre, g.s = i ∧ Attr.prot g.a = false from ⟨f, by simp, hfs.trans his.symm, hp⟩)]
          split <;> rfl
        · rw [if_neg his]
          have e1 : (∃ g ∈ f :: pre, g.s = i ∧ Attr.prot g.a = false) ↔ ∃ g ∈ pre, g.s = i ∧ Attr.prot g.a = false := by
            simp only [List.mem_cons]
            constructor
            · rintro ⟨g, rfl | hg, h3⟩
              · exact absurd (h3.1.symm.trans hfs) his
              · exact ⟨g, hg, h3⟩
            · rintro ⟨g, hg, h3⟩; exact ⟨g, .inr hg, h3⟩
          simp only [e1]
      | false =>
        have his : i ≠ s := by rintro rfl; rw [hs] at hsi; cases hsi
        simp only [Bool.false_eq_true, if_false, his, and_true]
        by_cases hi : i ∈ insP L.length f
        · rw [if_pos hi, if_pos (show ∃ g ∈ f :: pre, Attr.prot g.a = false ∧ i ∈ insP L.length g from ⟨f, by simp, hp, hi⟩)]
          split <;> rfl
        · rw [if_neg hi]
          have e1 : (∃ g ∈ f :: pre, Attr.prot g.a = false ∧ i ∈ insP L.length g) ↔ ∃ g ∈ pre, Attr.prot g.a = false ∧ i ∈ insP L.length g := by
            simp only [List.mem_cons]
            constructor
            · rintro ⟨g, rfl | hg, h3⟩
              · exact absurd h3.2 hi
              · exact ⟨g, hg, h3⟩
            · rintro ⟨g, hg, h3⟩; exact ⟨g, .inr hg, h3⟩
          simp only [e1]
/-- The fields that Open looks at are all fields, as they were. -/
theorem opF_eq (L : List Cl) : ∀ N : Nat, N ≤ L.length → allK L (opP L) N = allK L (fun _ => L) N
  | 0, _ => rfl
  | N + 1, hN => by
    have ih := opF_eq L N (by omega)
    cases hs : (atL L N).st with
    | false => rw [allK_succ_no hs, allK_succ_no hs, ih]
    | true =>
      rw [allK_succ_yes hs, allK_succ_yes hs, ih]
      have h := stg L N
      have hmem : ∀ f ∈ allK L (fun _ => L) N, ∃ p : Nat, p < N ∧ (atL L p).st = true ∧ f = begF L p := by
        intro f hf
        obtain ⟨i, hi⟩ := List.mem_iff_getElem?.1 hf
        exact h.each i f hi
      have hpre : ∀ f ∈ allK L (fun _ => L) N, ∃ s : Int, 0 ≤ s ∧ s < L.length ∧ (atL L s).st = true ∧ f.s = s ∧ f.k = (begF L s).k := by
        intro f hf
        obtain ⟨p, h1, h2, rfl⟩ := hmem f hf
        exact ⟨p, by omega, by omega, h2, rfl, rfl⟩
      have hall : ∀ i, (atL (opP L (allK L (fun _ => L) N)) i).st = (atL L i).st := by
        intro i
        rw [atL_opP i _ L hpre]
        cases hsi : (atL L i).st with
        | true => simp only [if_true]; split <;> simp [modC, hsi]
        | false =>
          simp only [Bool.false_eq_true, if_false]
          split
          · rfl
          · exact hsi
      have hlen : (opP L (allK L (fun _ => L) N)).length = L.length := by
        unfold opP
        refine foldl_keep (P := fun M => M.length = L.length) L _ rfl (fun M f h => ?_) _
        unfold opS
        split
        · exact h
        · rw [modL_length]
          unfold clrL
          refine foldl_keep (P := fun K => K.length = L.length) M _ h (fun K p h => ?_) _
          split
          · exact h
          · exact (setL_length _ _ _).trans h
      have hat : atL (opP L (allK L (fun _ => L) N)) N = atL L N := by
        rw [atL_opP N _ L hpre, if_pos hs, if_neg ?_]
        rintro ⟨f, hf, h1, _⟩
        obtain ⟨p, hp, _, rfl⟩ := hmem f hf
        rw [begF_s] at h1; omega
      congr 1
      congr 1
      unfold begF
      rw [aft_st hall hlen, hlen, hat]
end Go.Proofs.Ytlcjiffnmpkndaa.Pl
