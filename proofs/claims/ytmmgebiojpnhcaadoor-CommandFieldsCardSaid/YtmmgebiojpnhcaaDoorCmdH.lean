/-
  Parse of all commands.
-/
import Derived.Test.YtmmgebiojpnhcaaDoorCmdG
namespace Go.Proofs.YtmmgebiojpnhcaaDoor.Cmd
open Go.RowKit Base Go.Proofs.YtmmgebiojpnhcaaDoor.Ord
set_option linter.unusedVariables false
set_option linter.unusedSimpArgs false

theorem cutM_some {L : List Int} {p : List Int × List Int} (h : cutM L = some p) : p.1 ≠ [] ∧ p.1.length ≤ L.length ∧ p.2.length + 3 ≤ L.length ∧ (∀ x ∈ p.1, x ∈ L) ∧ ∀ x ∈ p.2, x ∈ L := by
  unfold cutM at h
  split at h
  · cases h
  · split at h
    · cases h
    · next h1 h2 =>
      injection h with h
      subst h
      obtain ⟨h3, h4⟩ : 2 < manyM L ∧ manyM L ≤ L.length := by omega
      refine ⟨fun e => ?_, ?_, ?_, fun x hx => List.mem_of_mem_take (List.mem_of_mem_drop hx), fun x hx => List.mem_of_mem_drop hx⟩
      · have := congrArg List.length e
        simp only [List.length_drop, List.length_take, List.length_nil] at this
        omega
      · simp only [List.length_drop, List.length_take]; omega
      · simp only [List.length_drop]; omega
theorem fl_cl (w : World) (x0 x1 x2 x3 x4 x5 x6 : Value) : ∀ (j : Nat) (u : Value), ([x0, x1, x2, x3, x4, x5, x6] : List Value)[j]? = some u → (w.alloc (.cells #[x0, x1, x2, x3, x4, x5, x6] 39)).cell? ((⟨w.heap.size, 0, none⟩ : Addr).add j) = some u := by
  intro j u hu
  match j, hu with
  | 0, hu => simp at hu; subst hu; simp [go_sem, Addr.add]
  | 1, hu => simp at hu; subst hu; simp [go_sem, Addr.add]
  | 2, hu => simp at hu; subst hu; simp [go_sem, Addr.add]
  | 3, hu => simp at hu; subst hu; simp [go_sem, Addr.add]
  | 4, hu => simp at hu; subst hu; simp [go_sem, Addr.add]
  | 5, hu => simp at hu; subst hu; simp [go_sem, Addr.add]
  | 6, hu => simp at hu; subst hu; simp [go_sem, Addr.add]
def FsRel (w : World) (L : List Int) (v u : Value) (wr : World) : Prop :=
  ∃ R Q f, R.length < f ∧ fieldsM (L.length + 1) L = (Q.map (·.1) ++ (fieldsM f R).1, (fieldsM f R).2) ∧ CutRow w v R ∧ (∀ x ∈ R, 0 ≤ x ∧ x < 256) ∧ FlsOwn w.heap.size wr u Q ∧ Q.length + R.length ≤ L.length ∧ Below w.heap.size w wr
def FsP (w : World) (T : List Fl × Int) (e : Ending) (w' : World) : Prop := ∃ u Q, e = .returned (.tuple #[u, .int .i64 T.2]) ∧ FlsOwn w.heap.size w' u Q ∧ Q.map (·.1) = T.1 ∧ Below w.heap.size w w'
def sliceLen : Value → Nat
  | .slice _ n _ => n
  | _ => 0
set_option maxRecDepth 100000 in
set_option maxHeartbeats 4000000 in
theorem fields_any {w : World} (ht : Tbl w) (v : Value) (L : List Int) (hc : CutRow w v L) (hb : ∀ x ∈ L, 0 ≤ x ∧ x < 256) (hm : L.length ≤ 1000000) :
    Calls Tryd.prog 21 #[v] w (FsP w (fieldsM (L.length + 1) L)) := by
  obtain ⟨i0, hi, hz0, hz1, hz2⟩ := info_parts info_fls
  obtain ⟨T, hT⟩ : ∃ T, T = fieldsM (L.length + 1) L := ⟨_, rfl⟩
  have HST := Lib.hid (show FsRel w L v (.slice none 0 0) w from ⟨L, [], L.length + 1, Nat.lt_succ_self _, by simp, hc, hb, FlsOwn.nil _ _, by simp, Below.refl _ _⟩)
  have HT := Lib.hid hT
  have HTB := Lib.hid ht
  have HMX := Lib.hid hm
  rw [← hT]
  clear hT hc hb hm ht
  go_enter Tryd.func21, Tryd.ntmps21
  go_wp2_with fail
  go_loopw [0, 4] (fun v u wr => FsRel w L v u wr) (fun v _ _ => sliceLen v)
  case atStart => exact HST.out
  case round =>
    obtain ⟨R, Q, f, hf, hTT, hcut, hby, hown, hlen, hold⟩ := hrel
    obtain ⟨ra, rc, hrr⟩ : ∃ a c, u0 = .slice a R.length c := by obtain ⟨_, a, c, e, _⟩ := hcut; exact ⟨a, c, e⟩
    subst hrr
    obtain ⟨oa, oc, rfl⟩ := hown.form
    obtain ⟨m, hm2⟩ : ∃ m, m = Q.length := ⟨_, rfl⟩
    obtain ⟨n, hn⟩ : ∃ n, n = R.length := ⟨_, rfl⟩
    rw [← hm2] at hown ⊢
    rw [← hn] at hcut ⊢
    have HTT := Lib.hid (HT.out.trans hTT)
    have HC := Lib.hid hcut
    have HBY := Lib.hid hby
    have HO := Lib.hid hown
    have HOL := Lib.hid hold
    have HM := Lib.hid hm2
    have HN := Lib.hid hn
    have HF := Lib.hid hf
    have HLN := Lib.hid hlen
    have HRM : Hid (R.length ≤ 1000000) := Lib.hid (by have := HMX.out; omega)
    have hmi : m ≤ 1000000 := by have := HMX.out; omega
    clear hTT hcut hby hown hold hm2 hn hf hlen HST
    by_cases hn0 : n = 0
    · subst hn0
      have hRnil : R = [] := List.eq_nil_of_length_eq_zero HN.out.symm
      have HT2 : Hid (T = (Q.map (·.1), 0)) := Lib.hid (by
        rw [HTT.out, hRnil]
        obtain ⟨g, rfl⟩ : ∃ g, f = g + 1 := ⟨f - 1, by have := HF.out; omega⟩
        simp [fieldsM])
      go_wp2_with fail
      refine bodyPost_ret (v := .tuple #[.slice oa m oc, .int .i64 0]) (by simp [results, Tryd.results21, go_sem]) rfl ?_
      exact ⟨_, Q, by rw [HT2.out], HO.out, by rw [HT2.out], HOL.out⟩
    · have hpos : (0 : Int) < (n : Int) := by omega
      have hRne : R ≠ [] := by rintro rfl; exact hn0 HN.out
      obtain ⟨f, rfl⟩ : ∃ g, f = g + 1 := ⟨f - 1, by have := HF.out; have := HN.out; omega⟩
      have HCUT := Lib.hid (cut_any (w := wr) (.slice ra n rc) R (HC.out.below HOL.out) HBY.out HRM.out)
      cases hcm : cutM R with
      | none =>
        have HT2 : Hid (T = (Q.map (·.1), 34)) := Lib.hid (by rw [HTT.out]; simp [fieldsM, hRne, hcm])
        have HCM := Lib.hid hcm
        clear hcm hRne
        go_wp2_with fail
        refine HCUT.out.mono ?_
        rintro e W5 ⟨va, vb, he, _, b5⟩
        rw [HCM.out] at he
        subst he
        have HO5 := Lib.hid (HO.out.below b5)
        have HOL5 := Lib.hid (HOL.out.trans (b5.mono HOL.out.size))
        clear b5
        simp only [Option.isSome]
        go_wp2_with fail
        refine bodyPost_ret (v := .tuple #[.slice oa m oc, .int .i64 34]) (by simp [results, Tryd.results21, go_sem]) rfl ?_
        exact ⟨_, Q, by rw [HT2.out], HO5.out, by rw [HT2.out], HOL5.out⟩
      | some p =>
        obtain ⟨ha, hal, hbl, hma, hmb⟩ := cutM_some hcm
        obtain ⟨A, B⟩ := p
        have HA := Lib.hid (show A ≠ [] from ha)
        have HAB := Lib.hid (show ∀ x ∈ A, 0 ≤ x ∧ x < 256 from fun x hx => HBY.out x (hma x hx))
        have HBB := Lib.hid (show ∀ x ∈ B, 0 ≤ x ∧ x < 256 from fun x hx => HBY.out x (hmb x hx))
        have HAM := Lib.hid (show A.length ≤ 1000000 from Nat.le_trans hal HRM.out)
        have HBL := Lib.hid (show B.length + 3 ≤ R.length from hbl)
        have HCM := Lib.hid hcm
        have HRN := Lib.hid hRne
        clear ha hal hbl hma hmb hcm hRne
        go_wp2_with fail
        refine HCUT.out.mono ?_
        rintro e W5 ⟨va, vb, he, hrows, b5⟩
        rw [HCM.out] at he
        subst he
        obtain ⟨hra, hrb⟩ := hrows _ HCM.out _ HC.out
        have HRA := Lib.hid (show CutRow w va A from hra)
        have HRB := Lib.hid (show CutRow w vb B from hrb)
        have HO5 := Lib.hid (HO.out.below b5)
        have HOL5 := Lib.hid (HOL.out.trans (b5.mono HOL.out.size))
        have HTB5 := Lib.hid (HTB.out.below HOL5.out)
        clear b5 hrows hra hrb HCUT
        simp only [Option.isSome]
        go_wp2_with fail
        refine (field_any HTB5.out va A (HRA.out.below HOL5.out) HA.out HAB.out HAM.out).mono ?_
        rintro e W6 ⟨fi, fo, fk, fw, pa, pn, pc, fe, he, hfl, b6⟩
        obtain ⟨F, hF⟩ : ∃ F, F = fieldM A := ⟨_, rfl⟩
        rw [← hF] at he hfl
        have HFM := Lib.hid hF.symm
        have HO6 := Lib.hid (HO5.out.below b6)
        have HOL6 := Lib.hid (HOL5.out.trans (b6.mono HOL5.out.size))
        have HSZ6 := Lib.hid (HOL5.out.size)
        clear b6 hF HRA
        subst he
        cases F with
        | none =>
          have HT2 : Hid (T = (Q.map (·.1), 34)) := Lib.hid (by rw [HTT.out]; simp [fieldsM, HRN.out, HCM.out, HFM.out])
          have HB7 := Lib.hid (below_alloc W6 (.cells #[.int .u8 fi, .int .u8 fo, .int .u8 fk, .int .u8 fw, .slice pa pn pc, .int .i64 fe, .slice none 0 0] 39))
          clear hfl
          simp only [Option.isSome]
          go_wp2_with fail
          refine bodyPost_ret (v := .tuple #[.slice oa m oc, .int .i64 34]) (by simp [results, Tryd.results21, go_sem]) rfl ?_
          exact ⟨_, Q, by rw [HT2.out], HO6.out.below HB7.out, by rw [HT2.out], HOL6.out.trans (HB7.out.mono HOL6.out.size)⟩
        | some fl =>
          obtain ⟨hfl1, P, hP, hPm⟩ := hfl fl rfl
          obtain ⟨fos, hfos⟩ : ∃ fos, fos = fl.ords := ⟨_, rfl⟩
          rw [← hfos] at hfl1 hPm
          subst hfl1
          have HT2 : Hid (T = (Q.map (·.1) ++ ⟨fi, fo, fk, fw, fos, fe⟩ :: (fieldsM f B).1, (fieldsM f B).2)) := Lib.hid (by rw [HTT.out]; simp [fieldsM, HRN.out, HCM.out, HFM.out])
          have HP6 := Lib.hid (hP.lower HSZ6.out)
          have HPM := Lib.hid hPm
          have HP7 := Lib.hid (below_alloc W6 (.cells #[.int .u8 fi, .int .u8 fo, .int .u8 fk, .int .u8 fw, .slice pa pn pc, .int .i64 fe, .slice none 0 0] 39))
          have hq := heap_alloc_new W6 (.cells #[.int .u8 fi, .int .u8 fo, .int .u8 fk, .int .u8 fw, .slice pa pn pc, .int .i64 fe, .slice none 0 0] 39)
          obtain ⟨W7, hW7⟩ : ∃ W7, W7 = W6.alloc (.cells #[.int .u8 fi, .int .u8 fo, .int .u8 fk, .int .u8 fw, .slice pa pn pc, .int .i64 fe, .slice none 0 0] 39) := ⟨_, rfl⟩
          obtain ⟨g, hg⟩ : ∃ g, g = W6.heap.size := ⟨_, rfl⟩
          rw [← hW7] at HP7 hq
          rw [← hg] at hq
          have HW7 := Lib.hid hW7.symm
          have HG := Lib.hid hg.symm
          have HO7 := Lib.hid (HO6.out.below HP7.out)
          have HPP7 := Lib.hid (HP6.out.below HP7.out)
          have HOL7 := Lib.hid (HOL6.out.trans (HP7.out.mono HOL6.out.size))
          have hraw : W7.ownsRow w.heap.size 39 7 (.slice oa m oc) m (flC Q) := by
            have := HO7.out.row
            rw [← HM.out] at this; exact this
          have HRAW := Lib.hid hraw
          have HZ := Lib.hid HOL7.out.size
          obtain ⟨⟨d0, d1, d2, d3, d4, d5, d6⟩, _⟩ := cells7 hq
          clear hfl hP hPm hW7 hg hq hraw
          simp only [Option.isSome]
          go_upto_region 9 with fail
          rw [HW7.out, HG.out]
          go_wp2_with (first
            | (at_builtin; refine wpList_append_own _ rfl _ _ 26 rfl w.heap.size 39 i0 (.agg #[.int .u8 0, .int .u8 0, .int .u8 0, .int .u8 0, .slice none 0 0, .int .i64 0, .slice none 0 0]) 7 72 Tryd.underlying26 hi hz0 hz1 hz2 rfl (by decide) _ _ _ rfl (HRAW.out.alloc _) ⟨W7.heap.size, 0, none⟩ 1 1 [.int .u8 fi, .int .u8 fo, .int .u8 fk, .int .u8 fw, .slice pa pn pc, .int .i64 fe, .slice none 0 0] rfl rfl (fl_cl W7 _ _ _ _ _ _ _) (by simp [Value.oneCell']) (by unfold maxLen; omega) (by omega) (by rw [World.size_alloc]; have := HZ.out; omega) ?_; intro v' W8 hown' hgrow _; have HOWN := Lib.hid hown'; have HGR := Lib.hid hgrow; clear hown' hgrow))
          have hal := below_alloc W7 (.cells #[.int .u8 fi, .int .u8 fo, .int .u8 fk, .int .u8 fw, .slice pa pn pc, .int .i64 fe, .slice none 0 0] 39)
          have hfirst : ∀ g, (Value.slice oa m oc).ownBlock = some g → w.heap.size ≤ g := row_first HRAW.out
          have u8 : Turn (fun g => w.heap.size ≤ g) W7 W8 := (Turn.of_below hal).grown HGR.out fun g e => .inr (hfirst g e)
          have o8 := HO7.out.grown (f := ⟨fi, fo, fk, fw, fos, fe⟩) HPP7.out HPM.out (by rw [← HM.out]; exact HOWN.out) HGR.out
          have b8 : Below w.heap.size w W8 := HOL7.out.trans (u8.below HOL7.out.size fun g hg => hg)
          refine ⟨⟨B, _, f, ?_, ?_, HRB.out, HBB.out, o8, ?_, b8⟩, ?_⟩
          · have := HBL.out; have := HF.out; omega
          · rw [← HT.out, HT2.out]; simp
          · rw [List.length_append]; have := HBL.out; have := HLN.out; simp; omega
          · obtain ⟨_, a9, c9, e9, _⟩ := HRB.out
            rw [e9]
            show B.length < n
            have := HBL.out; have := HN.out; omega
theorem oneM_of {L : List Int} (h : ¬ (L ≠ [] ∧ toldK (nthL L 0) = 243)) : cmdM L = oneM L := by unfold cmdM; rw [if_neg h]
end Go.Proofs.YtmmgebiojpnhcaaDoor.Cmd
