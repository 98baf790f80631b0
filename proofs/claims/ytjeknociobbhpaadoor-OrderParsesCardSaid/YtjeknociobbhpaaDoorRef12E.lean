/-
  The reference of orders: Parse.
-/
import Derived.Test.YtjeknociobbhpaaDoorRef12D
import Derived.Test.YtjeknociobbhpaaDoorOrdT
namespace Go.Proofs.YtjeknociobbhpaaDoor.Ord
open Go.RowKit Base
set_option linter.unusedVariables false
set_option linter.unusedSimpArgs false

theorem empty_ords (W : World) : (W.alloc (.cells #[] 35)).ownsRow W.heap.size 35 6 (.slice (some ⟨W.heap.size, 0, none⟩) 0 0) 0 [] :=
  ⟨rfl, .inr ⟨W.heap.size, 0, #[], rfl, Nat.le_refl _, heap_alloc_new W _, Nat.le_refl _, by simp [maxLen], rfl, rfl⟩⟩
structure ZQ (w : World) (L : List Int) (T : List Or × Nat × Option Flt) (v : Value) (i : Nat) (wr : World) : Prop where
  ex : ∃ P f, L.length ≤ i + f ∧ T = preP (P.map (·.1)) (parseL L f i) ∧ OrdsOwn w.heap.size wr v P ∧ P.length ≤ i
  old : Below w.heap.size w wr
theorem take_step (L : List Int) (i j : Nat) (x : Int) (hij : i ≤ j) (hx : L[j]? = some x) : (L.drop i).take (j + 1 - i) = (L.drop i).take (j - i) ++ [x] := by
  rw [show j + 1 - i = (j - i) + 1 by omega, List.take_add_one, List.getElem?_drop, show i + (j - i) = j by omega, hx]
  rfl
set_option maxRecDepth 100000 in
set_option maxHeartbeats 8000000 in
theorem rparse_any (v : Value) (L : List Int) (w : World) (h : RowOf .u8 w v L) (hb : ∀ x ∈ L, 0 ≤ x ∧ x < 256) (hm : L.length ≤ 900000) :
    Calls Tryd.prog 10 #[v] w (ParseP w (parseL L (L.length + 1) 0)) := by
  obtain ⟨i0, hi, hz0, hz1, hz2⟩ := info_parts info_ords
  have hzo := (zero_of_info info_ord).1
  have hrow := h.lowK
  obtain ⟨va, vc, rfl, _⟩ := h
  obtain ⟨T, hT⟩ : ∃ T, T = parseL L (L.length + 1) 0 := ⟨_, rfl⟩
  rw [← hT]
  obtain ⟨n, hn⟩ : ∃ n, n = L.length := ⟨_, rfl⟩
  rw [← hn] at hm ⊢
  have hb0 := below_alloc w (.cells #[] 35)
  have he0 := empty_ords w
  obtain ⟨W0, hW0⟩ : ∃ W0, W0 = w.alloc (.cells #[] 35) := ⟨_, rfl⟩
  rw [← hW0] at hb0 he0
  obtain ⟨s, hs⟩ : ∃ s, s = w.heap.size := ⟨_, rfl⟩
  have HP0 : Hid (ZQ w L T (.slice (some ⟨s, 0, none⟩) 0 0) 0 W0) := Lib.hid ⟨⟨[], n + 1, by omega, by rw [hT, ← hn]; simp [preP], ⟨by rw [hs]; exact he0, by simp⟩, by simp⟩, hb0⟩
  have HROW : Hid (∀ W, Below w.heap.size w W → RowOf .u8 W (.slice va n vc) L) := Lib.hid fun W t => by rw [hn]; exact (hrow.below t).row
  have HN := Lib.hid hn
  have HBY := Lib.hid hb
  have HW0 := Lib.hid hW0.symm
  have HS := Lib.hid hs.symm
  clear hrow hb hT hn hb0 he0 hW0 hs
  go_enter Tryd.func10, Tryd.ntmps10
  go_upto_region 3 with fail
  rw [HW0.out, HS.out]
  clear HW0
  go_loopw [5, 6] (fun v r wr => ∃ i : Nat, r = .int .i64 i ∧ ZQ w L T v i wr) (fun _ r _ => n - (intOf r).toNat)
  case atStart => exact ⟨0, rfl, HP0.out⟩
  case round =>
    obtain ⟨i, rfl, ⟨P, f, hf, hT, hown, hPi⟩, hold⟩ := hrel
    obtain ⟨va2, vc2, rfl⟩ := hown.form
    obtain ⟨m, hm2⟩ : ∃ m, m = P.length := ⟨_, rfl⟩
    rw [← hm2] at hown hPi ⊢
    by_cases hin : i < n
    · have hini : (i : Int) < (n : Int) := by omega
      have hi0 : (0 : Int) ≤ (i : Int) := Int.natCast_nonneg _
      have hiL : i < L.length := by rw [← HN.out]; exact hin
      cases f with
      | zero => have := HN.out; omega
      | succ f =>
        unfold parseL at hT
        rw [if_pos hiL] at hT
        obtain ⟨x, hx⟩ : ∃ x, L[i]? = some x := ⟨_, List.getElem?_eq_getElem hiL⟩
        have hxd : L[i]?.getD 0 = x := by rw [hx]; rfl
        obtain ⟨_, _, e, hc⟩ := HROW.out wr hold
        injection e with e1 e2 e3
        clear e2
        subst e1 e3
        obtain ⟨gg, off, rfl, hcc⟩ := hc (by intro e; rw [e] at hiL; simp at hiL)
        have hd := hcc i hiL
        rw [hxd] at hd
        have HF := Lib.hid (show n ≤ i + 1 + f by have := HN.out; omega)
        have HO := Lib.hid hown
        have HB := Lib.hid hold
        have HPI := Lib.hid hPi
        have HM := Lib.hid hm2
        have HX := Lib.hid hx
        have hmi : m ≤ 900000 := by omega
        unfold orderM at hT
        rw [hxd] at hT
        clear hc hcc hf hown hold hPi hm2 hx hxd HP0
        by_cases hpl : plain x = true
        · rw [if_pos hpl] at hT
          obtain ⟨jd, hjd⟩ : ∃ jd, jd = i + (dataL L i).length := ⟨_, rfl⟩
          have hT2 : T = preP (P.map (·.1) ++ [⟨0, 0, 0, false, [], dataL L i⟩]) (parseL L f jd) := by rw [hT, hjd]; simp [preP]
          have HT2 := Lib.hid hT2
          have HJD := Lib.hid hjd
          have HPL := Lib.hid hpl
          clear hT hT2 hjd hpl
          go_wp2_with fail
          have hrp := rplain_any x wr
          rw [HPL.out] at hrp
          refine hrp.mono ?_
          rintro e W1 ⟨rfl, b1⟩
          have HO1 := Lib.hid (HO.out.below b1)
          have HB1 := Lib.hid (HB.out.trans (b1.mono HB.out.size))
          clear hrp b1 hd HO HB
          have hem := empty_bytes W1
          have hbm := below_alloc W1 (.cells #[] 5)
          obtain ⟨W2, hW2⟩ : ∃ W2, W2 = W1.alloc (.cells #[] 5) := ⟨_, rfl⟩
          rw [← hW2] at hem hbm
          obtain ⟨s2, hs2⟩ : ∃ s2, s2 = W1.heap.size := ⟨_, rfl⟩
          rw [← hs2] at hem hbm
          have HEM := Lib.hid hem
          have HBM := Lib.hid hbm
          have HW2 := Lib.hid hW2.symm
          have HS2 := Lib.hid hs2.symm
          have HO := HO1
          have HB := HB1
          clear hem hbm hW2 hs2 HO1 HB1
          go_upto_region 6 with fail
          rw [HW2.out, HS2.out]
          go_loopw [6, 7] (fun r d wx => ∃ j : Nat, i ≤ j ∧ j ≤ n ∧ r = .int .i64 j ∧ OwnBytes s2 wx d ((L.drop i).take (j - i)) ∧ Hid (∀ q, i ≤ q → q < j → plain (L[q]?.getD 0) = true) ∧ Below s2 W1 wx) (fun r _ _ => n - (intOf r).toNat)
          case atStart => exact ⟨i, Nat.le_refl _, by omega, rfl, by simpa using HEM.out, Lib.hid (fun q h1 h2 => absurd h1 (by omega)), HBM.out⟩
          case round =>
            obtain ⟨j, hij, hjn, rfl, hdd, hall, hwx'⟩ := hrel
            have hwx : Below W1.heap.size W1 wr := by rw [HS2.out]; exact hwx'
            have hsz2 : s2 ≤ wr.heap.size := by rw [← HS2.out]; exact hwx.size
            by_cases hjl : j < n
            · have hjli : (j : Int) < (n : Int) := by omega
              have hj0 : (0 : Int) ≤ (j : Int) := Int.natCast_nonneg _
              have hjL : j < L.length := by rw [← HN.out]; exact hjl
              obtain ⟨y, hy⟩ : ∃ y, L[j]? = some y := ⟨_, List.getElem?_eq_getElem hjL⟩
              obtain ⟨_, _, e, hc⟩ := HROW.out wr (HB.out.trans (hwx.mono HB.out.size))
              injection e with e1 e2 e3
              obtain ⟨g', off', e4, hcc⟩ := hc (by intro e; rw [e] at hjL; simp at hjL)
              rw [← e1] at e4
              injection e4 with e4
              injection e4 with e5 e6 _
              have hdj := hcc j hjL
              rw [← e5, ← e6, hy] at hdj
              simp only [Option.getD_some] at hdj
              have HY := Lib.hid hy
              have HDA := Lib.hid hdd
              have HWX := Lib.hid hwx
              have HSZ2 := Lib.hid hsz2
              clear hy hc hcc e1 e2 e3 e5 e6 hwx' hdd hwx hsz2
              have hrp := rplain_any y wr
              by_cases hpy : plain y = true
              · rw [hpy] at hrp
                have HPY := Lib.hid hpy
                have HRP := Lib.hid hrp
                clear hrp hpy
                go_wp2_with fail
                refine HRP.out.mono ?_
                rintro e W3 ⟨rfl, b3⟩
                have HW3 := Lib.hid (HWX.out.trans (b3.mono HWX.out.size))
                have HD3 := Lib.hid (HDA.out.below b3)
                have HZ3 : Hid (s2 ≤ W3.heap.size) := Lib.hid (Nat.le_trans HSZ2.out b3.size)
                have hdj3 : W3.cell? ⟨gg, off + j, none⟩ = some (.int .u8 y) := (cell_block (b3.block gg (World.block_lt_of_cell? wr ⟨gg, off + j, none⟩ hdj)) _).trans hdj
                have HLT3 : Hid (((L.drop i).take (j - i)).length ≤ 900000) := Lib.hid (by rw [List.length_take, List.length_drop]; have := HN.out; omega)
                clear b3 hdj
                go_wp2_with (at_builtin; go_loud (refine append_row rfl _ _ rfl (HD3.out.below (below_alloc _ _)) (row_one8 _ _ _) (fun _ _ h => by cases h) rfl rfl (by have := HLT3.out; simp only [List.length_singleton]; omega) (by rw [World.size_alloc]; have := HZ3.out; omega) (w0 := W1) ((show Below s2 W1 W3 by rw [← HS2.out]; exact HW3.out).alloc HZ3.out _) ?_); intro v9 W9 hown hold _ _; have HO9 := Lib.hid hown; have HL9 := Lib.hid hold; clear hown hold)
                go_roundw
                case rel => exact ⟨j + 1, by omega, by omega, by go_num, by rw [take_step L i j y hij HY.out]; exact HO9.out, Lib.hid (fun q h1 h2 => by
                  by_cases hqj : q = j
                  · subst hqj; rw [HY.out]; exact HPY.out
                  · exact hall.out q h1 (by omega)), HL9.out⟩
                case measure => simp [intOf]; omega
              · have hpy : plain y = false := by simpa using hpy
                rw [hpy] at hrp
                have HPY := Lib.hid hpy
                have HRP := Lib.hid hrp
                clear hrp hpy
                have hdl := dataL_stop L (j - i) i (by have := HN.out; omega) (fun q h1 h2 => hall.out q h1 (by omega)) (by rw [show i + (j - i) = j by omega]; exact .inr (by rw [HY.out]; exact HPY.out))
                have hjj : jd = j := by rw [HJD.out, hdl, List.length_take, List.length_drop]; have := HN.out; omega
                subst hjj
                have HIJ : Hid (i < jd) := Lib.hid (by
                  rcases Nat.lt_or_ge i jd with h | h
                  · exact h
                  · exfalso
                    have : i = jd := by omega
                    subst this
                    have h1 := HX.out
                    rw [HY.out] at h1
                    injection h1 with h1
                    have h2 := HPL.out
                    rw [← h1, HPY.out] at h2
                    cases h2)
                have HDL := Lib.hid hdl
                clear hdl
                go_wp2_with fail
                refine HRP.out.mono ?_
                rintro e wx ⟨rfl, b3⟩
                have hwx : Below W1.heap.size W1 wx := HWX.out.trans (b3.mono HWX.out.size)
                obtain ⟨j, hj'⟩ : ∃ j, j = jd := ⟨_, rfl⟩
                subst hj'
                have hdd := (HDA.out.below b3).lower (show w.heap.size ≤ s2 by rw [← HS2.out]; exact HB.out.size)
                rw [← HDL.out] at hdd
                clear b3 hdj HRP HDA HWX
                obtain ⟨da, dc, rfl⟩ := hdd.slice
                obtain ⟨dn, hdn⟩ : ∃ dn, dn = (dataL L i).length := ⟨_, rfl⟩
                rw [← hdn] at hdd ⊢
                have HDN := Lib.hid hdn
                have HDD := Lib.hid hdd
                have HOX := Lib.hid (HO.out.below hwx)
                have HBX := Lib.hid (HB.out.trans (hwx.mono HB.out.size))
                have HZX : Hid (w.heap.size ≤ wx.heap.size) := Lib.hid HBX.out.size
                have hraw : wx.ownsRow w.heap.size 35 6 (.slice va2 m vc2) m (ordC P) := by
                  have := HOX.out.row
                  rw [← HM.out] at this; exact this
                have HRAW := Lib.hid hraw
                clear hdd hdn hwx hraw
                go_wp2_with (at_builtin; refine wpList_append_own _ rfl _ _ 25 rfl w.heap.size 35 i0 (.agg #[.int .u8 0, .int .i64 0, .int .u8 0, .bool false, .slice none 0 0, .slice none 0 0]) 6 72 Tryd.underlying25 hi hz0 hz1 hz2 rfl (by decide) _ _ _ rfl (HRAW.out.alloc _) ⟨wx.heap.size, 0, none⟩ 1 1 [.int .u8 0, .int .i64 0, .int .u8 0, .bool false, .slice none 0 0, .slice da dn dc] rfl rfl (ord_cl wx 0 0 0 false _ _) (by simp [Value.oneCell']) (by unfold maxLen; omega) (by omega) (by rw [World.size_alloc]; have := HZX.out; omega) ?_; intro v' W6 hown' hgrow _; have HOWN := Lib.hid hown'; have HGR := Lib.hid hgrow; clear hown' hgrow)
                have o6 : OrdsOwn w.heap.size W6 v' (P ++ [(⟨0, 0, 0, false, [], dataL L i⟩, .slice none 0 0, .slice da dn dc)]) := HOX.out.grown (q := ⟨0, 0, 0, false, [], dataL L i⟩) (vp := .slice none 0 0) (vd := .slice da dn dc) ⟨rfl, .inl ⟨rfl, rfl⟩⟩ HDD.out (by rw [← HM.out]; exact HOWN.out) HGR.out
                have b6 : Below w.heap.size w W6 := (HBX.out.alloc HZX.out _).grown HGR.out (by rw [World.size_alloc]; have := HZX.out; omega) (fun r e => row_first HRAW.out r e)
                have HFIN : Hid (ZQ w L T v' j W6) := Lib.hid ⟨⟨_, f, by have := HF.out; have := HIJ.out; have := HN.out; omega, by rw [HT2.out]; simp, o6, by rw [List.length_append, ← HM.out]; have := HPI.out; have := HIJ.out; simp; omega⟩, b6⟩
                clear o6 b6
                go_roundw
                case rel => exact ⟨j, rfl, HFIN.out⟩
                case measure => have := HIJ.out; simp [intOf]; omega
            · obtain rfl : j = n := by omega
              have hdl := dataL_stop L (j - i) i (by have := HN.out; omega) (fun q h1 h2 => hall.out q h1 (by omega)) (by rw [show i + (j - i) = j by omega]; exact .inl HN.out)
              have hjj : jd = j := by rw [HJD.out, hdl, List.length_take, List.length_drop]; have := HN.out; omega
              subst hjj
              have HIJ : Hid (i < jd) := Lib.hid hin
              have HDL := Lib.hid hdl
              clear hdl
              obtain ⟨wx, hwx0⟩ : ∃ wx, wx = wr := ⟨_, rfl⟩
              subst hwx0
              obtain ⟨j, hj'⟩ : ∃ j, j = jd := ⟨_, rfl⟩
              subst hj'
              replace hdd := hdd.lower (show w.heap.size ≤ s2 by rw [← HS2.out]; exact HB.out.size)
              rw [← HDL.out] at hdd
              clear hwx'
              obtain ⟨da, dc, rfl⟩ := hdd.slice
              obtain ⟨dn, hdn⟩ : ∃ dn, dn = (dataL L i).length := ⟨_, rfl⟩
              rw [← hdn] at hdd ⊢
              have HDN := Lib.hid hdn
              have HDD := Lib.hid hdd
              have HOX := Lib.hid (HO.out.below hwx)
              have HBX := Lib.hid (HB.out.trans (hwx.mono HB.out.size))
              have HZX : Hid (w.heap.size ≤ wx.heap.size) := Lib.hid HBX.out.size
              have hraw : wx.ownsRow w.heap.size 35 6 (.slice va2 m vc2) m (ordC P) := by
                have := HOX.out.row
                rw [← HM.out] at this; exact this
              have HRAW := Lib.hid hraw
              clear hdd hdn hwx hraw
              go_wp2_with (at_builtin; refine wpList_append_own _ rfl _ _ 25 rfl w.heap.size 35 i0 (.agg #[.int .u8 0, .int .i64 0, .int .u8 0, .bool false, .slice none 0 0, .slice none 0 0]) 6 72 Tryd.underlying25 hi hz0 hz1 hz2 rfl (by decide) _ _ _ rfl (HRAW.out.alloc _) ⟨wx.heap.size, 0, none⟩ 1 1 [.int .u8 0, .int .i64 0, .int .u8 0, .bool false, .slice none 0 0, .slice da dn dc] rfl rfl (ord_cl wx 0 0 0 false _ _) (by simp [Value.oneCell']) (by unfold maxLen; omega) (by omega) (by rw [World.size_alloc]; have := HZX.out; omega) ?_; intro v' W6 hown' hgrow _; have HOWN := Lib.hid hown'; have HGR := Lib.hid hgrow; clear hown' hgrow)
              have o6 : OrdsOwn w.heap.size W6 v' (P ++ [(⟨0, 0, 0, false, [], dataL L i⟩, .slice none 0 0, .slice da dn dc)]) := HOX.out.grown (q := ⟨0, 0, 0, false, [], dataL L i⟩) (vp := .slice none 0 0) (vd := .slice da dn dc) ⟨rfl, .inl ⟨rfl, rfl⟩⟩ HDD.out (by rw [← HM.out]; exact HOWN.out) HGR.out
              have b6 : Below w.heap.size w W6 := (HBX.out.alloc HZX.out _).grown HGR.out (by rw [World.size_alloc]; have := HZX.out; omega) (fun r e => row_first HRAW.out r e)
              have HFIN : Hid (ZQ w L T v' j W6) := Lib.hid ⟨⟨_, f, by have := HF.out; have := HIJ.out; have := HN.out; omega, by rw [HT2.out]; simp, o6, by rw [List.length_append, ← HM.out]; have := HPI.out; have := HIJ.out; simp; omega⟩, b6⟩
              clear o6 b6
              go_roundw
              case rel => exact ⟨j, rfl, HFIN.out⟩
              case measure => have := HIJ.out; simp [intOf]; omega
        · rw [if_neg hpl] at hT
          have HPL : Hid (plain x = false) := Lib.hid (by simpa using hpl)
          have hone : ∀ W, Below w.heap.size w W → Calls Tryd.prog 24 #[.slice (some ⟨gg, off, none⟩) n vc, .int .i64 i] W (OneK W i (ordK L x (i + 1))) := fun W t => by
            have := rone_any (HROW.out W t) HBY.out (by rw [← HN.out]; exact hm) i hiL
            rwa [show L[i]?.getD 0 = x by rw [HX.out]; rfl] at this
          have hend : ∀ o l, ordK L x (i + 1) = .ok o l → l ≤ n ∧ i < l := fun o l e => by
            have e2 : orderM L i = .ok o l := by
              unfold orderM
              rw [show L[i]?.getD 0 = x by rw [HX.out]; rfl, if_neg hpl]
              exact e
            have h1 := orderM_end hiL e2
            have h2 := orderM_adv hiL e2
            have := HN.out
            exact ⟨by omega, h2⟩
          have hrp := rplain_any x wr
          rw [HPL.out] at hrp
          have HRP := Lib.hid hrp
          clear hpl hrp
          obtain ⟨r, hr⟩ : ∃ r, r = ordK L x (i + 1) := ⟨_, rfl⟩
          rw [← hr] at hT hone hend
          have HONE := Lib.hid hone
          clear hone hr
          rcases r with ⟨o, l⟩ | f'
          · have hT2 : T = preP (P.map (·.1) ++ [o]) (parseL L f l) := by rw [hT]; simp [preP]
            have HT2 := Lib.hid hT2
            have HEN := Lib.hid (hend o l rfl)
            clear hT hT2 hend
            go_wp2_with fail
            refine HRP.out.mono ?_
            rintro e W1 ⟨rfl, b1⟩
            have HO1 := Lib.hid (HO.out.below b1)
            have HB1 := Lib.hid (HB.out.trans (b1.mono HB.out.size))
            clear b1 hd HO HB HRP
            go_wp2_with fail
            refine (HONE.out W1 HB1.out).mono ?_
            rintro e W3 ⟨V, mm, rfl, hok, _, b3⟩
            obtain ⟨hmm, vp, vd, rfl, hp, hdd⟩ := hok o l rfl
            have HWS : Hid (wrap64 ((i : Int) + mm) = (l : Int)) := Lib.hid (by have := HEN.out; rw [IntWalk.wrap64_in _ (by omega)]; omega)
            have HO3 := Lib.hid (HO1.out.below b3)
            have HB3 := Lib.hid (HB1.out.trans (b3.mono HB1.out.size))
            have HP3 := Lib.hid (hp.base HB1.out.size)
            have HD3 := Lib.hid (hdd.lower HB1.out.size)
            obtain ⟨pa, pc, rfl⟩ := hp.slice
            obtain ⟨da, dc, rfl⟩ := hdd.slice
            obtain ⟨ok, oa, ob, og, ops, od⟩ := o
            simp only at HP3 HD3 HT2 ⊢
            obtain ⟨pn, hpn⟩ : ∃ pn, pn = ops.length := ⟨_, rfl⟩
            obtain ⟨dn, hdn⟩ : ∃ dn, dn = od.length := ⟨_, rfl⟩
            rw [← hpn] at HP3 ⊢
            rw [← hdn] at HD3 ⊢
            have hal := below_alloc W3 (.cells #[.int .u8 ok, .int .i64 oa, .int .u8 ob, .bool og, .slice pa pn pc, .slice da dn dc] 35)
            have hnb := heap_alloc_new W3 (.cells #[.int .u8 ok, .int .i64 oa, .int .u8 ob, .bool og, .slice pa pn pc, .slice da dn dc] 35)
            obtain ⟨W4, hW4⟩ : ∃ W4, W4 = W3.alloc (.cells #[.int .u8 ok, .int .i64 oa, .int .u8 ob, .bool og, .slice pa pn pc, .slice da dn dc] 35) := ⟨_, rfl⟩
            obtain ⟨bx, hbx⟩ : ∃ bx, bx = W3.heap.size := ⟨_, rfl⟩
            rw [← hW4] at hal hnb
            rw [← hbx] at hnb
            have HO4 := Lib.hid (HO3.out.below hal)
            have HB4 := Lib.hid (HB3.out.trans (hal.mono HB3.out.size))
            have HP4 := Lib.hid ((PairRow.keep HP3.out fun g _ hl => hal.block g hl))
            have HD4 := Lib.hid (HD3.out.below hal)
            have HNB := Lib.hid hnb
            have HW4 := Lib.hid hW4.symm
            have HBX := Lib.hid hbx.symm
            have HZ4 : Hid (w.heap.size ≤ W4.heap.size) := Lib.hid HB4.out.size
            have hraw : W4.ownsRow w.heap.size 35 6 (.slice va2 m vc2) m (ordC P) := by
              have := HO4.out.row
              rw [← HM.out] at this; exact this
            have HRAW := Lib.hid hraw
            have HPN := Lib.hid hpn
            have HDN := Lib.hid hdn
            clear hal hnb hW4 hbx hraw hp hdd hok b3 hmm hpn hdn HO1 HB1 HO3 HB3 HP3 HD3 HONE
            go_upto_region 11 with fail
            rw [HW4.out, HBX.out]
            obtain ⟨c0, c1, c2, c3, c4, c5, _⟩ := cells6 HNB.out
            go_wp2_with (at_builtin; refine wpList_append_own _ rfl _ _ 25 rfl w.heap.size 35 i0 (.agg #[.int .u8 0, .int .i64 0, .int .u8 0, .bool false, .slice none 0 0, .slice none 0 0]) 6 72 Tryd.underlying25 hi hz0 hz1 hz2 rfl (by decide) _ _ _ rfl (HRAW.out.alloc _) ⟨W4.heap.size, 0, none⟩ 1 1 [.int .u8 ok, .int .i64 oa, .int .u8 ob, .bool og, .slice pa pn pc, .slice da dn dc] rfl rfl (ord_cl W4 ok oa ob og _ _) (by simp [Value.oneCell']) (by unfold maxLen; omega) (by omega) (by rw [World.size_alloc]; have := HZ4.out; omega) ?_; intro v' W6 hown' hgrow _; have HOWN := Lib.hid hown'; have HGR := Lib.hid hgrow; clear hown' hgrow)
            have o6 : OrdsOwn w.heap.size W6 v' (P ++ [(⟨ok, oa, ob, og, ops, od⟩, .slice pa pn pc, .slice da dn dc)]) := HO4.out.grown (q := ⟨ok, oa, ob, og, ops, od⟩) HP4.out HD4.out (by rw [← HM.out]; exact HOWN.out) HGR.out
            have b6 : Below w.heap.size w W6 := (HB4.out.alloc HZ4.out _).grown HGR.out (by rw [World.size_alloc]; have := HZ4.out; omega) (fun r e => row_first HRAW.out r e)
            have HFIN : Hid (ZQ w L T v' l W6) := Lib.hid ⟨⟨_, f, by have := HF.out; have := HEN.out; have := HN.out; omega, by rw [HT2.out]; simp, o6, by rw [List.length_append, ← HM.out]; have := HPI.out; have := HEN.out; simp; omega⟩, b6⟩
            clear o6 b6 c0 c1 c2 c3 c4 c5
            go_wp2_with fail
            go_roundw
            case rel => exact ⟨l, by rw [HWS.out], HFIN.out⟩
            case measure => have := HEN.out; simp [intOf]; rw [HWS.out]; omega
          · have hT2 : T = (P.map (·.1), i, some f') := by rw [hT]; simp [preP]
            have HT2 := Lib.hid hT2
            obtain ⟨E, hE⟩ : ∃ E, E = errOf (some f') := ⟨_, rfl⟩
            have hE0 : (E == 0) = false := by rw [hE]; cases f' <;> rfl
            have HE := Lib.hid hE
            clear hT hT2 hend hE
            go_wp2_with fail
            refine HRP.out.mono ?_
            rintro e W1 ⟨rfl, b1⟩
            have HO1 := Lib.hid (HO.out.below b1)
            have HB1 := Lib.hid (HB.out.trans (b1.mono HB.out.size))
            clear b1 hd HO HB HRP
            go_wp2_with fail
            refine (HONE.out W1 HB1.out).mono ?_
            rintro e W3 ⟨V, mm, he, _, ⟨k', a', b', g', p1, q1, p2, p3, q2, q3, rfl⟩, b3⟩
            have he : e = .returned (.tuple #[.agg #[.int .u8 k', .int .i64 a', .int .u8 b', .bool g', .slice p1 p2 p3, .slice q1 q2 q3], .int .i64 mm, .int .i64 (errOf (some f'))]) := he
            rw [← HE.out] at he
            subst he
            have HO3 := Lib.hid ((HO1.out.below b3).below (below_alloc W3 (.cells #[.int .u8 k', .int .i64 a', .int .u8 b', .bool g', .slice p1 p2 p3, .slice q1 q2 q3] 35)))
            have HB3 := Lib.hid ((HB1.out.trans (b3.mono HB1.out.size)).alloc (Nat.le_trans HB1.out.size b3.size) (.cells #[.int .u8 k', .int .i64 a', .int .u8 b', .bool g', .slice p1 p2 p3, .slice q1 q2 q3] 35))
            clear b3 HO1 HB1 HONE
            go_wp2_with fail
            refine bodyPost_ret (v := .tuple #[.slice va2 m vc2, .int .i64 i, .int .i64 E]) (by simp [results, Tryd.results10, go_sem]) rfl ?_
            exact ⟨_, P, by rw [HT2.out, HE.out], HO3.out, by rw [HT2.out], HB3.out⟩
    · have hT2 : T = (P.map (·.1), i, none) := by
        rw [hT, parseL_end L f i (by have := HN.out; omega)]
        simp [preP]
      have HT2 := Lib.hid hT2
      have HO := Lib.hid hown
      have HB := Lib.hid hold
      have hini : ¬ (i : Int) < (n : Int) := by omega
      clear hT hT2 hown hold hm2 hPi hf HP0
      go_wp2_with fail
      refine bodyPost_ret (v := .tuple #[.slice va2 m vc2, .int .i64 i, .int .i64 0]) (by simp [results, Tryd.results10, go_sem]) rfl ?_
      exact ⟨_, P, by rw [HT2.out]; rfl, HO.out, by rw [HT2.out], HB.out⟩
end Go.Proofs.YtjeknociobbhpaaDoor.Ord
