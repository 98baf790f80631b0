/-
  The walk of FieldTexts.
-/
import Derived.Test.YtgbekdeedahajaaFieldWalksWalk
namespace Go.Proofs.Ytgbekdeedahajaa.Pl
open Go.RowKit Go.Shelf Base
set_option linter.unusedVariables false
set_option linter.unusedSimpArgs false

theorem WkF.s3 {w W : World} {b g : Nat} {r c : Int} {L : List Cl} {v : Value} {F1 F2 : Nat} {f1 f2 : Fd} (h : WkF w b g r c L v F1 F2 f1 f2 W) : W.cell? ⟨F1, 0, none⟩ = some (.int .i64 f1.s) ∧ W.cell? ⟨F1, 1, none⟩ = some (.int .i64 f1.k) ∧ W.cell? ⟨F1, 2, none⟩ = some (.int .u8 f1.a) ∧ WkF w b g r c L v F1 F2 f1 f2 W :=
  ⟨by simp [World.cell?, h.h1], by simp [World.cell?, h.h1], by simp [World.cell?, h.h1], h⟩
theorem bit12 (y : Int) (h0 : 0 ≤ y) (h1 : y ≤ 255) : (bits .and .u8 y 12 == 12) = decide (y / 4 % 4 = 3) := Attr.byte_fin (p := fun y => (bits .and .u8 y 12 == 12) = decide (y / 4 % 4 = 3)) (by decide +kernel) y h0 h1
theorem textL_none (page : Int) (L : List Cl) (a n : Int) (h : n ≤ 0) : textL page L a n = [] := by unfold textL cellsL; rw [if_pos h]; rfl
theorem begF_k {L : List Cl} (h0 : 1 ≤ L.length) (s : Int) : 0 ≤ (begF L s).k ∧ (begF L s).k < L.length := by
  show 0 ≤ mv L.length (aftL L s) (-1 - s) ∧ mv L.length (aftL L s) (-1 - s) < L.length
  unfold mv
  rw [if_neg (by omega)]
  exact ⟨Int.emod_nonneg _ (by omega), Int.emod_lt_of_pos _ (by omega)⟩
theorem ftext_form (page : Int) (L : List Cl) (f : Fd) : ftextL page L f = if f.a / 4 % 4 = 3 then List.replicate f.k.toNat 32 else textL page L (mv L.length f.s 1) f.k := by
  unfold ftextL
  split
  · rfl
  · split
    · rfl
    · next h => rw [textL_none _ _ _ _ (by omega)]
theorem blank_add (l : List UInt8) : (⟨l.toArray⟩ : ByteArray).data ++ (⟨#[32]⟩ : ByteArray).data = (l ++ [32]).toArray := by simp
set_option maxRecDepth 100000 in
set_option maxHeartbeats 8000000 in
theorem texts_law (r c : Int) (v0 : Value) (L0 : List Cl) (page : Int) (w : World) (hv : ClsAt w v0 L0) (hm : L0.length ≤ maxLen) (hok : ∀ x ∈ L0, x.Ok) :
    Calls Try.prog 7 #[.agg #[.int .i64 r, .int .i64 c], v0, .int .i64 page] w fun e W => e = .returned (.bool true) ∧ Below w.heap.size w W := by
  obtain ⟨a0, cap0, hv0, _⟩ := id hv
  subst hv0
  obtain ⟨m0, hm0⟩ : ∃ m0, m0 = L0.length := ⟨_, rfl⟩
  have HV := Lib.hid hv
  have HM := Lib.hid hm
  have HOK := Lib.hid hok
  rw [← hm0] at HV hm ⊢
  have HM0 := Lib.hid hm0
  obtain ⟨W0, hW0⟩ : ∃ W0, W0 = w.alloc (.cells #[.int .i64 r, .int .i64 c] 23) := ⟨_, rfl⟩
  have hn0 : W0.heap[w.heap.size]? = some (.cells #[.int .i64 r, .int .i64 c] 23 (0, 0)) := by rw [hW0]; exact heap_alloc_new w _
  have HN0 := Lib.hid hn0
  have B0 := Lib.hid (show Below w.heap.size w W0 by rw [hW0]; exact below_alloc w _)
  have HW0 := Lib.hid hW0.symm
  clear hv hok hm0 hW0 hn0 hm
  go_enter Try.func7, Try.ntmps7
  go_wp2_with fail
  rw [HW0.out]
  go_wp2_with (go_at_call 13; (with_reducible refine (fld_alive W0).mono ?_); rintro e w1 ⟨rfl, hb1⟩
               have n1 := (hb1.block _ (lt_of_block HN0.out)).trans HN0.out
               have q0 : w1.cell? ⟨w.heap.size, 0, none⟩ = some (.int .i64 r) := by simp [World.cell?, n1]
               have q1 : w1.cell? ⟨w.heap.size, 1, none⟩ = some (.int .i64 c) := by simp [World.cell?, n1]
               have B1 := Lib.hid (B0.out.trans (hb1.mono B0.out.size)); clear hb1 n1)
  go_at_call 14
  refine (made_any r c (.slice a0 m0 cap0) L0 w1 (HV.out.below (B1.out.mono (Nat.le_refl _))) HM.out).mono ?_
  rintro e w2 (⟨hno, pv, r', c', a', l', k', rfl, hb2⟩ | ⟨b, g, gx, n, hcn, hn1, hn2, rfl, hpl, hrow, hb, hg, hgx, hgb, hgg, hb2⟩)
  · unfold xV
    go_wp2_with fail
    go_ret
    exact ⟨rfl, B1.out.trans ((hb2.mono B1.out.size).alloc (by have := B1.out.size; have := hb2.size; omega) _)⟩
  · unfold xV
    obtain ⟨L, hL⟩ : ∃ L, L = mL n L0 L0.length := ⟨_, rfl⟩
    rw [← hL] at hpl
    have hlen : L.length = n := by rw [hL, mL_length]
    have HOKL := Lib.hid (show OkL L by rw [hL]; exact mL_oks HOK.out _ _)
    have hokL : OkL L := by rw [hL]; exact mL_oks HOK.out _ _
    have HPL := Lib.hid (hpl.alloc (.cells #[.int .i64 r, .int .i64 c, .slice (some ⟨gx, 0, none⟩) n n, .int .i64 0] 28))
    have B2 := Lib.hid ((B1.out.trans (hb2.mono B1.out.size)).alloc (by have := B1.out.size; have := hb2.size; omega) (.cells #[.int .i64 r, .int .i64 c, .slice (some ⟨gx, 0, none⟩) n n, .int .i64 0] 28))
    have HBO := Lib.hid (bo_of_ok hokL)
    clear hpl hrow hb2 hL hcn q0 q1
    go_wp2_with (go_at_call 16; (with_reducible refine (lall_any HPL.out HBO.out 1000 (by omega)).mono ?_); rintro e w3 ⟨v, he, hr, _, hb3⟩
                 rw [take_all (by have := allK_most L (fun _ => L) L.length; show (allK L (fun _ => L) L.length).length ≤ _; omega)] at hr
                 obtain ⟨a, cap, hv, hsome⟩ := row_shape hr
                 subst hv
                 subst he
                 have HQ := Lib.hid (show WkQ w b g r c L (.slice a (allL L).length cap) w3 from ⟨HPL.out.below hb3, hr, B2.out.trans (hb3.mono B2.out.size)⟩)
                 have HSO := Lib.hid hsome
                 obtain ⟨m, hmm⟩ : ∃ m, m = (allL L).length := ⟨_, rfl⟩
                 have hml : m ≤ 120 := by have := allK_most L (fun _ => L) L.length; rw [hmm]; show (allK L (fun _ => L) L.length).length ≤ _; omega
                 rw [← hmm] at HQ HSO ⊢
                 have HMM := Lib.hid hmm
                 clear hr hb3 hsome hmm)
    go_loopw [27] (fun p wr => ∃ i : Nat, p = .int .i64 i ∧ i ≤ m ∧ WkQ w b g r c L (.slice a m cap) wr) (fun p _ => m - (intOf p).toNat)
    case atStart => exact ⟨0, rfl, Nat.zero_le _, HQ.out⟩
    case round =>
      obtain ⟨i, rfl, hi, hq⟩ := hrel
      have HQ1 := Lib.hid hq
      by_cases him : i < m
      · have himi : (i : Int) < (m : Int) := by omega
        obtain ⟨gr, rfl⟩ := HSO.out (by omega)
        have hrow := hq.row
        rw [← HMM.out] at hrow
        obtain ⟨f, hf⟩ : ∃ f, (allL L)[i]? = some f := ⟨_, List.getElem?_eq_getElem (by rw [← HMM.out]; exact him)⟩
        obtain ⟨p, p1, p2, p3⟩ := (stg L L.length).each i f hf
        have hfs : f.s = p := by rw [p3]; rfl
        have hfk := begF_k (L := L) (by omega) p
        have hfa := begF_a L HBO.out p
        rw [← p3] at hfk hfa
        obtain ⟨f0, f1', f3⟩ := flatF_get _ _ _ hf
        have a1 := (hrow.cellAt (i * 3) (by omega)).trans f0
        have a2 := (hrow.cellAt (i * 3 + 1) (by omega)).trans f1'
        have a3 := (hrow.cellAt (i * 3 + 2) (by omega)).trans f3
        have hin : inL L.length f.s = true := by simp [inL]; omega
        have hform := ftext_form page L f
        have hdl : (placesL L.length f.s f.k).length = f.k.toNat := by unfold placesL; rw [if_pos hin, first_length]
        obtain ⟨y, hy⟩ : ∃ y, y = mv L.length f.s 1 := ⟨_, rfl⟩
        rw [← hy] at hform
        have hrem : (f.s + 1).tmod (n : Int) = y := by
          rw [hy]; unfold mv; rw [if_neg (by omega), Int.tmod_eq_emod_of_nonneg (by omega), hlen]
        have hy0 : 0 ≤ y := by rw [← hrem, Int.tmod_eq_emod_of_nonneg (by omega)]; exact Int.emod_nonneg _ (by omega)
        have hy1 : y < n := by rw [← hrem, Int.tmod_eq_emod_of_nonneg (by omega)]; exact Int.emod_lt_of_pos _ (by omega)
        have hwy : IntKind.i64.wrap y = y := IntWalk.i64_in _ (by omega)
        obtain ⟨fs, fk, fa⟩ := f
        simp only at hfk hfa hfs hin hform hdl hrem a1 a2 a3
        obtain ⟨kN, rfl⟩ : ∃ kN : Nat, fk = kN := ⟨fk.toNat, by omega⟩
        rw [Int.toNat_natCast] at hform hdl
        obtain ⟨T, hT⟩ : ∃ T, T = textL page L y kN := ⟨_, rfl⟩
        rw [← hT] at hform
        obtain ⟨S, hS⟩ : ∃ S : ByteArray, S = ⟨(ftextL page L ⟨fs, kN, fa⟩).toArray⟩ := ⟨_, rfl⟩
        have hkf : WkF w b g r c L (.slice (some ⟨gr, 0, none⟩) m cap) wr.heap.size wr.heap.size ⟨fs, kN, fa⟩ ⟨fs, kN, fa⟩ (wr.alloc (.cells #[.int .i64 fs, .int .i64 kN, .int .u8 fa] 39)) := ⟨hq.below (below_alloc _ _), heap_alloc_new _ _, heap_alloc_new _ _⟩
        have HKF := Lib.hid hkf
        have HIN := Lib.hid hin
        have HFORM := Lib.hid hform
        have HDL := Lib.hid hdl
        have HT := Lib.hid hT
        have HS := Lib.hid hS
        have hkm : (kN : Int) < 121 := by omega
        have hfs0 : 0 ≤ fs ∧ fs < 121 := by omega
        have hnp : (1 : Int) ≤ n := by omega
        have hnm : (n : Int) ≤ 120 := by omega
        have hlq := len_any (WkQ.pl (WkF.q (WkF.drew hkf)))
        rw [hlen] at hlq
        have HLQ := Lib.hid hlq
        have HB12 := Lib.hid (bit12 fa hfa.1 hfa.2)
        have hn0b : ((n : Int) == 0) = false := by simp; omega
        have hn0c : ¬ n = 0 := by omega
        have HFK := Lib.hid (show (kN : Int) ≤ L.length from Int.le_of_lt hfk.2)
        have HF0 := Lib.hid hfs0
        have hwr : IntKind.i64.wrap (fs + 1) = fs + 1 := IntWalk.i64_in _ (by omega)
        have HFA := Lib.hid hfa
        clear hq hrow hf hkf f0 f1' f3 p3 hfs hy hT hS hform hdl hin hlq hfs0 hfk p2
        go_upto_region 9 with fail
        go_cut [12] (fun v wx => v = .string ⟨T.toArray⟩ ∧ WkF w b g r c L (.slice (some ⟨gr, 0, none⟩) m cap) wr.heap.size wr.heap.size ⟨fs, kN, fa⟩ ⟨fs, kN, fa⟩ wx)
        case first =>
          have hfs1 := HF0.out
          go_region_held3 (fun X => X.cell? ⟨wr.heap.size, 0, none⟩ = some (.int .i64 fs) ∧ X.cell? ⟨wr.heap.size, 1, none⟩ = some (.int .i64 kN) ∧ X.cell? ⟨wr.heap.size, 2, none⟩ = some (.int .u8 fa) ∧ WkF w b g r c L (.slice (some ⟨gr, 0, none⟩) m cap) wr.heap.size wr.heap.size ⟨fs, kN, fa⟩ ⟨fs, kN, fa⟩ X)
            (with_reducible (first | assumption | exact WkF.s3 (WkF.drew HKF.out) | exact WkF.s3 (by assumption)))
            (first
              | (go_at_call 38; (with_reducible refine HLQ.out.mono ?_); rintro e x1 ⟨rfl, rfl⟩; have K1 := WkF.drew HKF.out)
              | (go_at_call 40; (with_reducible refine (text_any (WkQ.pl (WkF.q K1)) HOKL.out page y kN).mono ?_); rintro e x2 ⟨he, hb⟩; rw [← HT.out] at he; subst he; have K2 := WkF.below K1 hb; clear hb))
          all_goals
            go_wp2
            go_meet
            exact ⟨rfl, K2⟩
        case rest =>
          obtain ⟨rfl, K2⟩ := hcut
          obtain ⟨d0, d1, d2, _⟩ := WkF.s3 K2
          have HK2 := Lib.hid K2
          clear hwr hrem a1 a2 a3
          go_upto_if 45 with fail
          go_cut [12] (fun v wx => v = .string S ∧ WkF w b g r c L (.slice (some ⟨gr, 0, none⟩) m cap) wr.heap.size wr.heap.size ⟨fs, kN, fa⟩ ⟨fs, kN, fa⟩ wx)
          case first =>
            by_cases hsh : fa / 4 % 4 = 3
            · have hb : (bits .and .u8 fa 12 == 12) = true := by rw [HB12.out]; simpa using hsh
              have HS2 := Lib.hid (show (⟨(List.replicate kN 32).toArray⟩ : ByteArray) = S by rw [HS.out, HFORM.out, if_pos hsh])
              clear HB12 hsh K2
              go_wp2_with fail
              go_loopw [12, 48] (fun v q wy => ∃ j : Nat, j ≤ kN ∧ v = .string ⟨(List.replicate j 32).toArray⟩ ∧ q = .int .i64 j ∧ WkF w b g r c L (.slice (some ⟨gr, 0, none⟩) m cap) wr.heap.size wr.heap.size ⟨fs, kN, fa⟩ ⟨fs, kN, fa⟩ wy) (fun _ q _ => kN - (intOf q).toNat)
              case atStart => exact ⟨0, Nat.zero_le _, rfl, rfl, HK2.out⟩
              case round =>
                obtain ⟨j, hj, rfl, rfl, hwy⟩ := hrel
                have HWY := Lib.hid hwy
                clear hwy
                by_cases hjk : j < kN
                · have hjki : (j : Int) < (kN : Int) := by omega
                  obtain ⟨SA, hSA⟩ : ∃ SA : ByteArray, SA = ⟨(List.replicate j 32).toArray⟩ := ⟨_, rfl⟩
                  have hsz : SA.size = j := by rw [hSA]; simp [ByteArray.size]
                  have hadd : ∀ w : World, (Op.stringOp .add SA ⟨#[32]⟩).run Try.prog w = .ok (.string (SA ++ ⟨#[32]⟩)) w := fun w => run_string_add_sum w _ _ (by rw [hsz]; show j + 1 ≤ _; omega)
                  have HSA := Lib.hid (show SA ++ (⟨#[32]⟩ : ByteArray) = ⟨(List.replicate (j + 1) 32).toArray⟩ by
                    rw [hSA, List.replicate_succ']
                    apply ByteArray.ext
                    rw [ByteArray.data_append]
                    apply Array.ext'
                    simp)
                  rw [← hSA]
                  clear hSA hsz
                  go_wp2
                  go_roundw
                  case rel => exact ⟨j + 1, by omega, by rw [HSA.out], by go_num, HWY.out⟩
                  case measure => simp [intOf]; omega
                · have hjk2 : j = kN := by omega
                  have hjki : ¬ (j : Int) < (kN : Int) := by omega
                  subst hjk2
                  rw [HS2.out]
                  go_wp2
                  go_meet
                  exact ⟨rfl, HWY.out⟩
            · have hb : (bits .and .u8 fa 12 == 12) = false := by rw [HB12.out]; simpa using hsh
              have HS2 := Lib.hid (show (⟨T.toArray⟩ : ByteArray) = S by rw [HS.out, HFORM.out, if_neg hsh])
              clear HB12 hsh
              go_wp2
              go_meet
              exact ⟨by rw [HS2.out], HK2.out⟩
          case rest =>
            obtain ⟨rfl, K3⟩ := hcut
            clear d0 d1 d2 K2 HK2
            have HK3 := Lib.hid K3
            have hin2 := HIN.out
            have hfa2 := HFA.out
            go_wp2_with fail
            go_region_held3 (fun X => X.cell? ⟨wr.heap.size, 0, none⟩ = some (.int .i64 fs) ∧ X.cell? ⟨wr.heap.size, 1, none⟩ = some (.int .i64 kN) ∧ X.cell? ⟨wr.heap.size, 2, none⟩ = some (.int .u8 fa) ∧ WkF w b g r c L (.slice (some ⟨gr, 0, none⟩) m cap) wr.heap.size wr.heap.size ⟨fs, kN, fa⟩ ⟨fs, kN, fa⟩ X)
              (with_reducible (first | assumption | exact WkF.s3 (WkF.drew HK3.out) | exact WkF.s3 (by assumption)))
              (first
                | (go_at_call 25; (with_reducible refine (ftext_any (WkQ.pl (WkF.q (WkF.drew HK3.out))) HOKL.out page ⟨fs, kN, fa⟩ HIN.out (Int.natCast_nonneg _) HFK.out HFA.out).mono ?_); rintro e x1 ⟨he, hb⟩; rw [← HS.out] at he; subst he; have K4 := WkF.below (WkF.drew HK3.out) hb; clear hb)
                | (go_at_call 24; (with_reducible refine (data_any (WkQ.pl (WkF.q K4)) ⟨fs, kN, fa⟩ (by show (kN : Int) ≤ 4096; omega)).mono ?_); rintro e x2 ⟨v2, rfl, hr2, _, hb⟩
                   rw [HDL.out] at hr2
                   obtain ⟨a5, c5, hv5, _⟩ := row_shape hr2
                   subst hv5
                   have K5 := WkF.below K4 hb; clear hb hr2))
            all_goals
              go_wp2
              go_roundw
              case rel => exact ⟨i + 1, by go_num, by omega, K5.q⟩
              case measure => simp [intOf]; omega
      · have himi : ¬ (i : Int) < (m : Int) := by omega
        go_wp2
        go_ret
        exact ⟨rfl, HQ1.out.old⟩
theorem fieldTexts_law {w : World} (r c : Int) {p1 p2 p3 : Prop} (_ : p1) (_ : p2) (v : Value) (L0 : List Cl) (hL : ClsAt w v L0 ∧ L0.length ≤ maxLen ∧ ∀ x ∈ L0, x.Ok) (f : Int) (_ : p3) :
    Calls Try.prog 7 #[.agg #[.int .i64 r, .int .i64 c], v, .int .i64 f] w fun e W => e = .returned (.bool true) ∧ Below w.heap.size w W :=
  texts_law r c v L0 f w hL.1 hL.2.1 hL.2.2
end Go.Proofs.Ytgbekdeedahajaa.Pl
