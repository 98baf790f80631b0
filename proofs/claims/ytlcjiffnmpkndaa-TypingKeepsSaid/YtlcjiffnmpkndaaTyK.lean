/-
  What typing keeps, plainly: attributes but for whether they are modified, and all cells that aren't open.
-/
import Derived.Test.YtlcjiffnmpkndaaWpRw
import Derived.Test.YtlcjiffnmpkndaaTyI
namespace Go.Proofs.Ytlcjiffnmpkndaa.Pl
open Go.RowKit Go.Shelf Base
set_option linter.unusedVariables false
set_option linter.unusedSimpArgs false

theorem mem_dropTo {a y : Int} : ∀ {xs : List Int}, y ∈ dropTo a xs → y ∈ xs
  | [], h => by cases h
  | x :: xs, h => by
    unfold dropTo at h
    rw [List.dropWhile_cons] at h
    split at h
    · exact List.mem_cons_of_mem _ (mem_dropTo h)
    · exact h
/-- Each place of an open place's row is open. -/
theorem row_opn {L : List Cl} {a y : Int} (ho : opnL L a = true) (hy : y ∈ rowL L a) : opnL L y = true := by
  obtain ⟨h0, h1⟩ := opn_in ho
  have hy' := mem_dropTo hy
  obtain ⟨y0, y1⟩ := mem_places hy'
  by_cases hne : allL L = []
  · exact opn_none hne y0 y1
  · have hs := opn_st ho
    have hb : befL L a ≠ -1 := fun h => hne ((bef_none h0 h1).1 h)
    have hbs := bef_st_true hb
    obtain ⟨s0, s1⟩ := st_range hbs
    have hw : wholeF L a = begF L (befL L a) := by
      unfold wholeF isF ofF
      rw [if_pos (by simpa using hb), if_neg hb]
    rw [hw] at hy'
    obtain ⟨s, hse⟩ : ∃ s, s = befL L a := ⟨_, rfl⟩
    rw [← hse] at hy' hbs s0 s1
    have hop : opnL L a = !Attr.prot (atL L s).b := by rw [opn_field h0 h1 hs hne, ← hse]
    obtain ⟨j, hj, ha, hjs, hmin⟩ := aft_min s0 s1 hbs
    have hk := begF_len s0 s1 hj ha
    unfold placesL at hy'
    rw [begF_s, if_pos (by simp [inL]; omega)] at hy'
    obtain ⟨i, hi, rfl⟩ := List.mem_map.1 hy'
    have hi' := List.mem_range.1 hi
    rw [hk] at hi'
    have hns := hmin i (by omega)
    have hbe : befL L (step L.length (s + 1) i) = s := by
      rw [step_shift]; exact bef_in s0 s1 hbs (by omega)
    rw [opn_field y0 y1 hns hne, hbe, ← hop]; exact ho

structure Kp (L M : List Cl) : Prop where
  len : M.length = L.length
  st : ∀ i, (atL M i).st = (atL L i).st
  md : ∀ i, (atL L i).st = true → Attr.modify (atL M i).b false = Attr.modify (atL L i).b false
  cl : ∀ i, opnL L i = false → (atL L i).st = false → atL M i = atL L i
theorem Kp.refl (L : List Cl) : Kp L L := ⟨rfl, fun _ => rfl, fun _ _ => rfl, fun _ _ _ => rfl⟩
theorem Kp.kin {L M : List Cl} (h : Kp L M) : Kin L M := ⟨h.st, h.len, fun i hs => by rw [← prot_modify (atL M i).b false, h.md i hs, prot_modify]⟩
theorem Kp.opn {L M : List Cl} (h : Kp L M) (i : Int) : opnL M i = opnL L i := by
  unfold opnL
  rw [h.len, h.kin.bef]
  by_cases hb : befL L i = -1
  · rw [hb]; simp
  · rw [h.kin.pr _ (bef_st_true hb)]
theorem Kp.trans {L M N : List Cl} (h : Kp L M) (t : Kp M N) : Kp L N :=
  ⟨t.len.trans h.len, fun i => (t.st i).trans (h.st i), fun i hs => (t.md i ((h.st i).trans hs)).trans (h.md i hs), fun i ho hs => (t.cl i ((h.opn i).trans ho) ((h.st i).trans hs)).trans (h.cl i ho hs)⟩
theorem Kp.set {L M : List Cl} (h : Kp L M) {p : Int} (hp : opnL L p = true) {x : Cl} (hx : x.st = false) : Kp L (setL M p x) := by
  refine ⟨(setL_length _ _ _).trans h.len, fun i => ?_, fun i hs => ?_, fun i ho hs => ?_⟩ <;> rw [atL_setL]
  · split
    · next e => rw [hx, e.1, opn_st hp]
    · exact h.st i
  · split
    · next e => rw [e.1, opn_st hp] at hs; cases hs
    · exact h.md i hs
  · split
    · next e => rw [e.1, hp] at ho; cases ho
    · exact h.cl i ho hs
theorem kp_mark (L : List Cl) (a : Int) : Kp L (markL L a) := by
  have hk := mark_kin L a
  refine ⟨hk.len, hk.st, fun i hs => ?_, fun i ho hs => ?_⟩ <;> rw [atL_mark]
  · split
    · exact modify_idem (atL L i).b true false
    · rfl
  · split
    · next e => rw [e.2, bef_st_true e.1] at hs; cases hs
    · rfl
theorem kp_mrS {L : List Cl} {a : Int} (ho : opnL L a = true) : ∀ pre : List Int, (∀ y ∈ pre, opnL L y = true) → Kp L (mrS L a pre).1 ∧ (mrS L a pre).2.st = false := by
  intro pre
  refine snoc_indI (P := fun pre => (∀ y ∈ pre, opnL L y = true) → Kp L (mrS L a pre).1 ∧ (mrS L a pre).2.st = false) (fun _ => ⟨Kp.refl L, opn_st ho⟩) (fun xs y ih hy => ?_) pre
  obtain ⟨k, hs⟩ := ih (fun z hz => hy z (by simp [hz]))
  have hyo := hy y (by simp)
  rw [mrS_snoc]
  exact ⟨k.set hyo hs, by show (atL _ y).st = false; rw [k.st, opn_st hyo]⟩
theorem kp_dlS {L : List Cl} {a : Int} (ho : opnL L a = true) : ∀ pre : List Int, (∀ y ∈ pre, opnL L y = true) → Kp L (dlS L a pre).1 ∧ opnL L (dlS L a pre).2 = true := by
  intro pre
  refine snoc_indI (P := fun pre => (∀ y ∈ pre, opnL L y = true) → Kp L (dlS L a pre).1 ∧ opnL L (dlS L a pre).2 = true) (fun _ => ⟨Kp.refl L, ho⟩) (fun xs y ih hy => ?_) pre
  obtain ⟨k, hs⟩ := ih (fun z hz => hy z (by simp [hz]))
  have hyo := hy y (by simp)
  rw [dlS_snoc]
  exact ⟨k.set hs (by rw [k.st, opn_st hyo]), hyo⟩
theorem mem_takeTo {e y : Int} {xs : List Int} (h : y ∈ takeTo e xs) : y ∈ xs ∨ y = e := by
  unfold takeTo at h
  rcases List.mem_append.1 h with h | h
  · exact .inl ((List.takeWhile_prefix _).subset h)
  · right; simpa using h
theorem kp_rm {L : List Cl} {a : Int} (ho : opnL L a = true) (ins : Bool) : Kp L (rmL L a ins) := by
  unfold rmL
  split
  · split
    · next e he =>
      unfold roomL
      refine (kp_mrS ho _ (fun y hy => ?_)).1
      rcases mem_takeTo hy with h | h
      · exact row_opn ho h
      · rw [h]; exact row_opn ho (List.mem_of_find?_eq_some he)
    · exact Kp.refl L
  · exact Kp.refl L
theorem kp_pt {L M : List Cl} {a y : Int} (h : Kp L M) (ho : opnL L a = true) : Kp L (ptL M a y) :=
  (h.set (x := tyC M a y) ho rfl).trans (kp_mark _ _)
theorem kp_put (L : List Cl) (cur y : Int) (ins : Bool) : Kp L (putM L cur y ins).1 := by
  unfold putM
  by_cases h1 : opnL L cur = false
  · rw [if_pos h1]; exact Kp.refl L
  · rw [if_neg h1]
    have ho : opnL L cur = true := by simpa using h1
    split
    · exact Kp.refl L
    · split
      · exact Kp.refl L
      · exact kp_pt (kp_rm ho ins) ho
theorem kp_del (L : List Cl) (cur : Int) : Kp L (delM L cur).1 := by
  unfold delM
  by_cases h1 : opnL L cur = false
  · rw [if_pos h1]; exact Kp.refl L
  · rw [if_neg h1]
    have ho : opnL L cur = true := by simpa using h1
    obtain ⟨k, hl⟩ := kp_dlS ho (rowL L cur) (fun y hy => row_opn ho hy)
    exact (k.set (x := c0) hl rfl).trans (kp_mark _ _)
theorem kp_rest (L : List Cl) (cur : Int) : Kp L (restL L cur) := by
  cases ho : opnL L cur with
  | false => rw [(rest_no ho).1]; exact Kp.refl L
  | true =>
    have hm := kp_mark L cur
    refine ⟨rest_len L cur, fun i => ?_, fun i hs => ?_, fun i hno hs => ?_⟩ <;> rw [atL_rest ho]
    · split
      · next h => rw [((restP_in ho).1 i h).2.2.1]; rfl
      · exact hm.st i
    · split
      · next h => rw [((restP_in ho).1 i h).2.2.1] at hs; cases hs
      · exact hm.md i hs
    · split
      · next h => rw [((restP_in ho).1 i h).2.2.2.1] at hno; cases hno
      · exact hm.cl i hno hs
theorem kp_dup (L : List Cl) (cur : Int) (ins : Bool) : Kp L (dupM L cur ins).1 := by
  unfold dupM
  split
  · exact kp_put L cur 28 ins
  · exact kp_put L cur 28 ins
theorem kp_str (ins : Bool) : ∀ (ys : List Int) (L : List Cl) (cur : Int), Kp L (strM ins ys L cur).1
  | [], L, cur => Kp.refl L
  | y :: ys, L, cur => by
    rw [strM_cons]
    split
    · exact (kp_put L cur y ins).trans (kp_str ins ys _ _)
    · exact Kp.refl L
/-- With an error nothing is turned. -/
theorem del_err {L : List Cl} {cur : Int} (h : (delM L cur).2.2 ≠ 0) : (delM L cur).1 = L ∧ (delM L cur).2.1 = cur := by
  unfold delM at h ⊢
  split at h
  · next e => rw [if_pos e]; exact ⟨rfl, rfl⟩
  · exact absurd rfl h
theorem end_err {L : List Cl} {cur : Int} (h : (endM L cur).2.2 ≠ 0) : (endM L cur).1 = L ∧ (endM L cur).2.1 = cur := by
  unfold endM at h ⊢
  cases ho : opnL L cur with
  | false => exact ⟨(rest_no ho).1, rfl⟩
  | true => rw [ho] at h; exact absurd rfl h
theorem dup_err {L : List Cl} {cur : Int} {ins : Bool} (h : (dupM L cur ins).2.2 ≠ 0) : (dupM L cur ins).1 = L ∧ (dupM L cur ins).2.1 = cur := by
  unfold dupM at h ⊢
  split at h
  · exact absurd rfl h
  · next e => rw [if_neg e]; exact put_err e
end Go.Proofs.Ytlcjiffnmpkndaa.Pl
