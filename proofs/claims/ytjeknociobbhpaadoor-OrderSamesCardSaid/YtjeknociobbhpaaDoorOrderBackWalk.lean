/-
  The walk of OrderBack.
-/
import Derived.Test.YtjeknociobbhpaaDoorOrdAL
import Derived.Test.YtjeknociobbhpaaDoorOrdBC
import Derived.Test.YtjeknociobbhpaaDoorOpenO
import Derived.Test.YtjeknociobbhpaaDoorOpenH
namespace Go.Proofs.YtjeknociobbhpaaDoor.Ord
open Go.RowKit Base Iac
set_option linter.unusedVariables false
set_option linter.unusedSimpArgs false

def okB (o : Or) : Bool := decide (o.pairs.length ≤ 300) && decide (o.data.length ≤ 300)
def smB (L : List Or) : Bool := L.all okB && decide (L.length ≤ 40)
theorem smB_ok {L : List Or} (h : smB L = true) : L.length ≤ 40 ∧ ∀ o ∈ L, o.pairs.length ≤ 300 ∧ o.data.length ≤ 300 := by
  unfold smB at h
  rw [Bool.and_eq_true, List.all_eq_true] at h
  refine ⟨of_decide_eq_true h.2, fun o ho => ?_⟩
  have := h.1 o ho
  unfold okB at this
  rw [Bool.and_eq_true] at this
  exact ⟨of_decide_eq_true this.1, of_decide_eq_true this.2⟩
theorem smB_false {L : List Or} {o : Or} (h : o ∈ L) (hb : okB o = false) : smB L = false := by
  unfold smB
  rw [show L.all okB = false by rw [List.all_eq_false]; exact ⟨o, h, by rw [hb]; simp⟩]
  rfl
set_option maxRecDepth 100000 in
set_option maxHeartbeats 4000000 in
theorem small_any {w : World} {v : Value} {L : List Or} (h : OrdsAt2 w v L) (hm : L.length ≤ maxLen) : Calls Tryd.prog 15 #[v] w fun e w' => e = .returned (.bool (smB L)) ∧ Below w.heap.size w w' := by
  obtain ⟨a, cap, rfl, hr⟩ := h
  obtain ⟨N, hN⟩ : ∃ N, N = L.length := ⟨_, rfl⟩
  have hNm : N ≤ 9223372036854775807 := by simp [maxLen] at hm; omega
  rw [← hN]
  obtain ⟨B, hB⟩ : ∃ B, B = smB L := ⟨_, rfl⟩
  rw [← hB]
  have HN := Lib.hid hN
  have HB := Lib.hid hB
  have HR := Lib.hid hr
  clear hN hB hr hm
  go_enter Tryd.func15, Tryd.ntmps15
  go_upto_region 2 with fail
  go_loopw [7] (fun i wr => ∃ j : Nat, j ≤ N ∧ i = .int .i64 j ∧ Hid ((L.take j).all okB = true) ∧ Below w.heap.size w wr) (fun i _ => N - (intOf i).toNat)
  case atStart => exact ⟨0, by omega, rfl, Lib.hid (by simp), Below.refl _ _⟩
  case round =>
    obtain ⟨j, hj, rfl, hall, hold⟩ := hrel
    have HO := Lib.hid hold
    clear hold
    by_cases hjn : j < N
    · have hjni : (j : Int) < (N : Int) := by omega
      have hj0 : (0 : Int) ≤ (j : Int) := Int.natCast_nonneg _
      obtain ⟨o, hoo⟩ : ∃ o, L[j]? = some o := ⟨_, List.getElem?_eq_getElem (by rw [← HN.out]; exact hjn)⟩
      obtain ⟨g, off, rfl, hg, hc⟩ := HR.out (by intro e; rw [e] at hoo; simp at hoo)
      obtain ⟨vp, vd, hcell, hpp, hpd, hdz⟩ := hc j o hoo
      obtain ⟨d0, d1, d2, d3, d4, d5⟩ := OC.below hcell HO.out
      obtain ⟨pa, pc, rfl⟩ := hpp.form
      obtain ⟨da, dc, rfl⟩ : ∃ a c, vd = .slice a o.data.length c := by obtain ⟨a, c, e, _⟩ := hpd; exact ⟨a, c, e⟩
      have hal := below_alloc wr (.cells #[.int .u8 o.kind, .int .i64 o.addr, .int .u8 o.byte, .bool o.ge, .slice pa o.pairs.length pc, .slice da o.data.length dc] 35)
      have hnw := heap_alloc_new wr (.cells #[.int .u8 o.kind, .int .i64 o.addr, .int .u8 o.byte, .bool o.ge, .slice pa o.pairs.length pc, .slice da o.data.length dc] 35)
      obtain ⟨W1, hW1⟩ : ∃ W1, W1 = wr.alloc (.cells #[.int .u8 o.kind, .int .i64 o.addr, .int .u8 o.byte, .bool o.ge, .slice pa o.pairs.length pc, .slice da o.data.length dc] 35) := ⟨_, rfl⟩
      obtain ⟨ob, hob⟩ : ∃ ob, ob = wr.heap.size := ⟨_, rfl⟩
      rw [← hW1] at hal hnw
      rw [← hob] at hnw
      have HNW := Lib.hid hnw
      have HW1 := Lib.hid hW1.symm
      have HOB := Lib.hid hob.symm
      have HOO := Lib.hid hoo
      have HO1 := Lib.hid (HO.out.trans (hal.mono HO.out.size))
      obtain ⟨pn, hpn⟩ : ∃ pn, pn = o.pairs.length := ⟨_, rfl⟩
      obtain ⟨dn, hdn⟩ : ∃ dn, dn = o.data.length := ⟨_, rfl⟩
      rw [← hpn] at d4 HW1 HNW
      rw [← hdn] at d5 HW1 HNW
      have hok : okB o = (decide (pn ≤ 300) && decide (dn ≤ 300)) := by rw [hpn, hdn]; rfl
      have HOK := Lib.hid hok
      clear hcell hpp hpd hdz hal hnw hW1 hob hoo hc hg hpn hdn hok
      have hcase : (300 : Int) < (pn : Int) ∨ (¬ (300 : Int) < (pn : Int) ∧ (300 : Int) < (dn : Int)) ∨ (¬ (300 : Int) < (pn : Int) ∧ ¬ (300 : Int) < (dn : Int)) := by omega
      have bad : okB o = false → B = false := fun h => by rw [HB.out]; exact smB_false (List.mem_of_getElem? HOO.out) h
      have HBAD := Lib.hid bad
      clear bad
      rcases hcase with c1 | ⟨c1, c2⟩ | ⟨c1, c2⟩
      · obtain rfl : B = false := HBAD.out (by rw [HOK.out, show decide (pn ≤ 300) = false from decide_eq_false (by omega)]; rfl)
        go_upto_region 4 with fail
        rw [HW1.out, HOB.out]
        clear d0 d1 d2 d3 d4 d5
        obtain ⟨d0, d1, d2, d3, d4, d5, _⟩ := cells6 HNW.out
        go_wp2_with fail
        go_ret
        exact ⟨rfl, HO1.out⟩
      · obtain rfl : B = false := HBAD.out (by rw [HOK.out, show decide (dn ≤ 300) = false from decide_eq_false (by omega), Bool.and_false])
        go_upto_region 4 with fail
        rw [HW1.out, HOB.out]
        clear d0 d1 d2 d3 d4 d5
        obtain ⟨d0, d1, d2, d3, d4, d5, _⟩ := cells6 HNW.out
        go_wp2_with fail
        go_ret
        exact ⟨rfl, HO1.out⟩
      · have HOK2 : Hid (okB o = true) := Lib.hid (by rw [HOK.out, show decide (pn ≤ 300) = true from decide_eq_true (by omega), show decide (dn ≤ 300) = true from decide_eq_true (by omega)]; rfl)
        go_upto_region 4 with fail
        rw [HW1.out, HOB.out]
        clear d0 d1 d2 d3 d4 d5
        obtain ⟨d0, d1, d2, d3, d4, d5, _⟩ := cells6 HNW.out
        go_wp2_with fail
        go_roundw
        case rel => exact ⟨j + 1, by omega, by go_num, Lib.hid (by rw [List.take_add_one, HOO.out, List.all_append, hall.out]; simp [HOK2.out]), HO1.out⟩
        case measure => simp [intOf]; omega
    · obtain rfl : N = j := by omega
      have hA : L.all okB = true := by
        have := hall.out
        rwa [List.take_of_length_le (by rw [← HN.out]; exact Nat.le_refl _)] at this
      have hBv : B = decide (N ≤ 40) := by rw [HB.out, HN.out]; unfold smB; rw [hA]; rfl
      by_cases h40 : (N : Int) ≤ 40
      · obtain rfl : B = true := by rw [hBv]; exact decide_eq_true (by omega)
        clear hA hBv
        go_wp2_with fail
        go_ret
        exact ⟨rfl, HO.out⟩
      · obtain rfl : B = false := by rw [hBv]; exact decide_eq_false (by omega)
        have h40 : (40 : Int) < (N : Int) := by omega
        clear hA hBv
        go_wp2_with fail
        go_ret
        exact ⟨rfl, HO.out⟩
set_option maxRecDepth 100000 in
set_option maxHeartbeats 8000000 in
theorem orderBack_law {w : World} (v : Value) (L : List Or) (hL : OrdsAt2 w v L ∧ L.length ≤ maxLen ∧ ∀ o ∈ L, Open.OrOk o) (n : Int) (hn : (Lit.int .i64 n).wf = true) (u : Value) (B : List Int) (hB : CutRow w u B ∧ B.length ≤ maxLen ∧ ∀ n ∈ B, Open.Byte n) : Calls Tryd.prog 4 #[v, .int .i64 n, u] w fun e W' => e = .returned (.bool true) ∧ Below w.heap.size w W' := by
  obtain ⟨hL, hLm, hLo⟩ := hL
  obtain ⟨hB, _, hBb⟩ := hB
  obtain ⟨ba, bc, rfl⟩ : ∃ a c, u = .slice a B.length c := by obtain ⟨_, a, c, e, _⟩ := hB; exact ⟨a, c, e⟩
  have HL := Lib.hid hL
  have HLM := Lib.hid hLm
  have HLO := Lib.hid hLo
  have HB := Lib.hid hB
  have HBB := Lib.hid hBb
  obtain ⟨bn, hbn⟩ : ∃ n, n = B.length := ⟨_, rfl⟩
  have HBN := Lib.hid hbn
  rw [← hbn] at HB ⊢
  have HALI := Lib.hid (ord_alive w)
  obtain ⟨S, hS⟩ : ∃ S, S = smB L := ⟨_, rfl⟩
  have HS := Lib.hid hS
  clear hL hLm hLo hB hBb hbn hS hn
  by_cases h1 : S = true
  rotate_left
  · obtain rfl : S = false := by simpa using h1
    clear h1
    go_enter Tryd.func4, Tryd.ntmps4
    go_wp2_with fail
    refine HALI.out.mono ?_
    rintro e W1 ⟨rfl, b1⟩
    have HB1 := Lib.hid b1
    have HL1 := Lib.hid (HL.out.below b1)
    clear b1
    go_wp2_with fail
    refine (small_any HL1.out HLM.out).mono ?_
    rw [← HS.out]
    rintro e W2 ⟨rfl, b2⟩
    have HB2 := Lib.hid (HB1.out.trans (b2.mono HB1.out.size))
    clear b2
    go_wp2_with fail
    go_ret
    exact ⟨rfl, HB2.out⟩
  subst h1
  by_cases h2 : 2000 < bn
  · have h2i : (2000 : Int) < (bn : Int) := by omega
    go_enter Tryd.func4, Tryd.ntmps4
    go_wp2_with fail
    refine HALI.out.mono ?_
    rintro e W1 ⟨rfl, b1⟩
    have HB1 := Lib.hid b1
    have HL1 := Lib.hid (HL.out.below b1)
    clear b1
    go_wp2_with fail
    refine (small_any HL1.out HLM.out).mono ?_
    rw [← HS.out]
    rintro e W2 ⟨rfl, b2⟩
    have HB2 := Lib.hid (HB1.out.trans (b2.mono HB1.out.size))
    clear b2
    go_wp2_with fail
    go_ret
    exact ⟨rfl, HB2.out⟩
  have h2i : ¬ (2000 : Int) < (bn : Int) := by omega
  obtain ⟨hs40, hs300⟩ := smB_ok HS.out.symm
  have HK4 : Hid (∀ o ∈ L, o.Ok4) := Lib.hid fun o ho => ⟨by have := hs300 o ho; omega, by have := hs300 o ho; omega, (HLO.out o ho).ad.1, (HLO.out o ho).ad.2, (HLO.out o ho).by_.1, by have := (HLO.out o ho).by_.2; omega⟩
  have HLE := Lib.hid (wBytes_few n L hs40 hs300)
  have HMI := Lib.hid (back_mine n L hs40 hs300 fun o ho => ⟨(HLO.out o ho).by_, (HLO.out o ho).pb, (HLO.out o ho).db⟩)
  have HDS : Hid (dsum L ≤ 500000) := Lib.hid (by have := sum_le (fun o => o.data.length) 300 L fun o ho => (hs300 o ho).2; unfold dsum; omega)
  have H40 := Lib.hid hs40
  obtain ⟨⟨os, k, g⟩, hT⟩ : ∃ T, T = parseL B (B.length + 1) 0 := ⟨_, rfl⟩
  have hBl : B.length ≤ 2000 := by rw [← HBN.out]; omega
  obtain ⟨hw2, hok4, hos, hwl, hback⟩ := back_parsed 16384 B HBB.out hBl os k g hT.symm
  obtain ⟨_, _, _, hos4⟩ := parse_small B HBB.out (by omega) os k g hT.symm
  have HT := Lib.hid hT.symm
  have HBL := Lib.hid hBl
  have HW2 := Lib.hid hw2
  have HOK4 := Lib.hid hok4
  have HOS := Lib.hid hos
  have HWL := Lib.hid hwl
  have HBACK := Lib.hid hback
  have HOS4 := Lib.hid hos4
  clear hs40 hs300 hT hBl hw2 hok4 hos hwl hback hos4
  obtain ⟨E, hE⟩ : ∃ E, E = wErr L n := ⟨_, rfl⟩
  obtain ⟨F, hF⟩ : ∃ F, F = wErr os 16384 := ⟨_, rfl⟩
  have HE := Lib.hid hE.symm
  have HF := Lib.hid hF.symm
  rw [hE.symm] at HMI
  rw [hF.symm] at HW2 HBACK
  clear hE hF
  have key : E = 0 ∨ (E == 0) = false := by by_cases h : E = 0; exact .inl h; exact .inr (by simpa using h)
  rcases key with rfl | key
  all_goals
    go_enter Tryd.func4, Tryd.ntmps4
    go_wp2_with fail
    refine HALI.out.mono ?_
    rintro e W1 ⟨rfl, b1⟩
    have HB1 := Lib.hid b1
    have HL1 := Lib.hid (HL.out.below b1)
    have HR1 := Lib.hid (HB.out.below b1)
    clear b1
    go_wp2_with fail
    refine (small_any HL1.out HLM.out).mono ?_
    rw [← HS.out]
    rintro e W2 ⟨rfl, b2⟩
    have HB2 := Lib.hid (HB1.out.trans (b2.mono HB1.out.size))
    have HL2 := Lib.hid (HL1.out.below b2)
    have HR2 := Lib.hid (HR1.out.below b2)
    clear b2 HL1 HR1 HB1
    go_wp2_with fail
    refine (owrites_any n HL2.out HK4.out (by have := H40.out; omega) (by have := HLE.out; omega)).mono ?_
    rintro e W3 ⟨u3, he, hu3, _, b3⟩
    rw [HE.out] at he hu3
    subst he
    have HU3 := Lib.hid hu3
    have HB3 := Lib.hid (HB2.out.trans (b3.mono HB2.out.size))
    have HL3 := Lib.hid (HL2.out.below b3)
    have HR3 := Lib.hid (HR2.out.below b3)
    clear b3 HL2 HR2 HB2 hu3
  · obtain ⟨hwl, hwb, hwp⟩ := HMI.out (by trivial)
    have HWLm := Lib.hid hwl
    have HWBm := Lib.hid hwb
    have HWPm := Lib.hid hwp
    have hown := HU3.out rfl
    obtain ⟨_, q1, q2, q3⟩ := parse_small (wBytes L n) hwb (by omega) _ _ _ hwp
    have HQ := Lib.hid (And.intro (show (joinO L).length ≤ 1000000 by omega) q3)
    obtain ⟨wa, wc, rfl⟩ : ∃ a c, u3 = .slice a (wBytes L n).length c := by obtain ⟨_, a, c, e, _⟩ := hown.cut; exact ⟨a, c, e⟩
    obtain ⟨wn, hwn⟩ : ∃ wn, wn = (wBytes L n).length := ⟨_, rfl⟩
    have HWN := Lib.hid hwn.symm
    have HOWN := Lib.hid hown
    rw [← hwn] at HOWN
    rw [← hwn]
    clear hwl hwb hwp hown q1 q2 q3 hwn
    go_wp2_with fail
    have hc := parse_any _ (wBytes L n) _ HOWN.out.cut HWBm.out (by have := HWLm.out; omega)
    rw [HWPm.out, HWN.out] at hc
    refine hc.mono ?_
    rintro e W4 ⟨u4, P4, he, hP4, hm4, b4⟩
    have he : e = .returned (.tuple #[u4, .int .i64 wn, .int .i64 0]) := he
    subst he
    have HP4 := Lib.hid hP4
    have HM4 := Lib.hid hm4
    have HB4 := Lib.hid (HB3.out.trans (b4.mono HB3.out.size))
    have HL4 := Lib.hid (HL3.out.below b4)
    have HR4 := Lib.hid (HR3.out.below b4)
    clear hc hP4 hm4 b4 HL3 HR3 HB3 HOWN
    go_wp2_with fail
    refine (joined_any v L W4 HL4.out.at (by have := H40.out; omega) HDS.out).mono ?_
    rintro e W5 ⟨u5, P5, rfl, hj5, hm5, b5⟩
    have hat4 : OrdsAt W5 u4 (joinO L) := by
      have := HP4.out.at
      rw [show P4.map (·.1) = joinO L from HM4.out] at this
      exact this.below b5
    have hat5 : OrdsAt W5 u5 (joinO L) := by
      have := hj5.at
      rwa [hm5] at this
    have hsm := sames_any hat4 hat5 HQ.out.2 HQ.out.2 HQ.out.1 HQ.out.1
    rw [decide_eq_true rfl] at hsm
    have HSM := Lib.hid hsm
    have HB5 := Lib.hid (HB4.out.trans (b5.mono HB4.out.size))
    have HR5 := Lib.hid (HR4.out.below b5)
    clear hat4 hat5 hj5 hm5 hsm b5 HB4 HR4 HL4 HP4 HM4
    go_wp2_with fail
    refine HSM.out.mono ?_
    rintro e W6 ⟨rfl, b6⟩
    have HBx := Lib.hid (HB5.out.trans (b6.mono HB5.out.size))
    have HRx := Lib.hid (HR5.out.below b6)
    clear b6 HB5 HR5 HSM
    go_wp2_with fail
    have hc := parse_any _ B _ HRx.out HBB.out (by have := HBL.out; omega)
    rw [HT.out] at hc
    refine hc.mono ?_
    rintro e W7 ⟨u7, P7, he, hP7, hm7, b7⟩
    have he : e = .returned (.tuple #[u7, .int .i64 k, .int .i64 (errOf g)]) := he
    subst he
    have hat7 : OrdsAt2 W7 u7 os := by
      have := hP7.at2
      rwa [show P7.map (·.1) = os from hm7] at this
    have HAT7 := Lib.hid hat7
    have HB7 := Lib.hid (HBx.out.trans (b7.mono HBx.out.size))
    clear hc hP7 hm7 b7 hat7 HBx HRx
    go_wp2_with fail
    refine (owrites_any 16384 HAT7.out HOK4.out (by have := HOS.out; omega) (by have := HWL.out; omega)).mono ?_
    rintro e W8 ⟨u8, he, hu8, _, b8⟩
    rw [HF.out] at he hu8
    subst he
    have HU8 := Lib.hid hu8
    have HAT8 := Lib.hid (HAT7.out.below b8)
    have HB8 := Lib.hid (HB7.out.trans (b8.mono HB7.out.size))
    clear b8 hu8 HAT7 HB7
    rcases HW2.out with rfl | rfl
    · obtain ⟨hwb, hwp⟩ := HBACK.out (by trivial)
      have HWB := Lib.hid hwb
      have HWP := Lib.hid hwp
      have HOWN := Lib.hid (HU8.out rfl)
      clear hwb hwp
      go_wp2_with fail
      have hc := parse_any _ (wBytes os 16384) _ HOWN.out.cut HWB.out (by have := HWL.out; omega)
      rw [HWP.out] at hc
      refine hc.mono ?_
      rintro e W9 ⟨u9, P9, he, hP9, hm9, b9⟩
      have he : e = .returned (.tuple #[u9, .int .i64 ((wBytes os 16384).length : Int), .int .i64 0]) := he
      subst he
      have hat9 : OrdsAt W9 u9 os := by
        have := hP9.at
        rwa [show P9.map (·.1) = os from hm9] at this
      have hsm := sames_any hat9 (HAT8.out.below b9).at HOS4.out HOS4.out (by have := HOS.out; omega) (by have := HOS.out; omega)
      rw [decide_eq_true rfl] at hsm
      have HSM9 := Lib.hid hsm
      have HB9 := Lib.hid (HB8.out.trans (b9.mono HB8.out.size))
      clear hc hP9 hm9 b9 hat9 hsm HAT8 HOWN HB8
      go_wp2_with fail
      refine HSM9.out.mono ?_
      rintro e WA ⟨rfl, bA⟩
      have HBA := Lib.hid (HB9.out.trans (bA.mono HB9.out.size))
      clear bA
      go_wp2_with fail
      go_ret
      exact ⟨rfl, HBA.out⟩
    · go_wp2_with fail
      go_ret
      exact ⟨rfl, HB8.out⟩
  · have HBx := HB3
    have HRx := HR3
    clear HB3 HR3 HL3 HU3
    go_wp2_with fail
    have hc := parse_any _ B _ HRx.out HBB.out (by have := HBL.out; omega)
    rw [HT.out] at hc
    refine hc.mono ?_
    rintro e W7 ⟨u7, P7, he, hP7, hm7, b7⟩
    have he : e = .returned (.tuple #[u7, .int .i64 k, .int .i64 (errOf g)]) := he
    subst he
    have hat7 : OrdsAt2 W7 u7 os := by
      have := hP7.at2
      rwa [show P7.map (·.1) = os from hm7] at this
    have HAT7 := Lib.hid hat7
    have HB7 := Lib.hid (HBx.out.trans (b7.mono HBx.out.size))
    clear hc hP7 hm7 b7 hat7 HBx HRx
    go_wp2_with fail
    refine (owrites_any 16384 HAT7.out HOK4.out (by have := HOS.out; omega) (by have := HWL.out; omega)).mono ?_
    rintro e W8 ⟨u8, he, hu8, _, b8⟩
    rw [HF.out] at he hu8
    subst he
    have HU8 := Lib.hid hu8
    have HAT8 := Lib.hid (HAT7.out.below b8)
    have HB8 := Lib.hid (HB7.out.trans (b8.mono HB7.out.size))
    clear b8 hu8 HAT7 HB7
    rcases HW2.out with rfl | rfl
    · obtain ⟨hwb, hwp⟩ := HBACK.out (by trivial)
      have HWB := Lib.hid hwb
      have HWP := Lib.hid hwp
      have HOWN := Lib.hid (HU8.out rfl)
      clear hwb hwp
      go_wp2_with fail
      have hc := parse_any _ (wBytes os 16384) _ HOWN.out.cut HWB.out (by have := HWL.out; omega)
      rw [HWP.out] at hc
      refine hc.mono ?_
      rintro e W9 ⟨u9, P9, he, hP9, hm9, b9⟩
      have he : e = .returned (.tuple #[u9, .int .i64 ((wBytes os 16384).length : Int), .int .i64 0]) := he
      subst he
      have hat9 : OrdsAt W9 u9 os := by
        have := hP9.at
        rwa [show P9.map (·.1) = os from hm9] at this
      have hsm := sames_any hat9 (HAT8.out.below b9).at HOS4.out HOS4.out (by have := HOS.out; omega) (by have := HOS.out; omega)
      rw [decide_eq_true rfl] at hsm
      have HSM9 := Lib.hid hsm
      have HB9 := Lib.hid (HB8.out.trans (b9.mono HB8.out.size))
      clear hc hP9 hm9 b9 hat9 hsm HAT8 HOWN HB8
      go_wp2_with fail
      refine HSM9.out.mono ?_
      rintro e WA ⟨rfl, bA⟩
      have HBA := Lib.hid (HB9.out.trans (bA.mono HB9.out.size))
      clear bA
      go_wp2_with fail
      go_ret
      exact ⟨rfl, HBA.out⟩
    · go_wp2_with fail
      go_ret
      exact ⟨rfl, HB8.out⟩
end Go.Proofs.YtjeknociobbhpaaDoor.Ord
