/-
  The walk of OrderParses.
-/
import Derived.Test.YtjeknociobbhpaaDoorOrdAL
import Derived.Test.YtjeknociobbhpaaDoorRef12E
import Derived.Test.YtjeknociobbhpaaDoorOpenH
namespace Go.Proofs.YtjeknociobbhpaaDoor.Ord
open Go.RowKit Base
set_option linter.unusedVariables false
set_option linter.unusedSimpArgs false

theorem dsum_mem : ∀ (os : List Or) (o : Or), o ∈ os → o.data.length ≤ dsum os
  | p :: os, o, h => by
    show o.data.length ≤ p.data.length + dsum os
    rcases List.mem_cons.1 h with rfl | h
    · omega
    · have := dsum_mem os o h
      omega
theorem sameO_self (p : Or) : sameO p p = true := (sameO_eq p p).2 rfl
set_option maxRecDepth 100000 in
set_option maxHeartbeats 8000000 in
theorem orderParses_law {w : World} (v : Value) (B : List Int) (hB : CutRow w v B ∧ B.length ≤ maxLen ∧ ∀ n ∈ B, Open.Byte n) (c : Int) (hc : (Lit.int .u8 c).wf = true) : Calls Tryd.prog 3 #[v, .int .u8 c] w fun e W' => e = .returned (.bool true) ∧ Below w.heap.size w W' := by
  obtain ⟨hB, _, hBb⟩ := hB
  obtain ⟨ba, bc, rfl⟩ : ∃ a c, v = .slice a B.length c := by obtain ⟨_, a, c, e, _⟩ := hB; exact ⟨a, c, e⟩
  have HB := Lib.hid hB
  have HBB := Lib.hid hBb
  obtain ⟨bn, hbn⟩ : ∃ n, n = B.length := ⟨_, rfl⟩
  have HBN := Lib.hid hbn
  rw [← hbn] at HB ⊢
  have HALI := Lib.hid (ord_alive w)
  clear hB hBb hbn hc
  by_cases h1 : 2000 < bn
  · have h1i : (2000 : Int) < (bn : Int) := by omega
    go_enter Tryd.func3, Tryd.ntmps3
    go_wp2_with fail
    refine HALI.out.mono ?_
    rintro e W1 ⟨rfl, b1⟩
    have HB1 := Lib.hid b1
    clear b1
    go_wp2_with fail
    go_ret
    exact ⟨rfl, HB1.out⟩
  have h1i : ¬ (2000 : Int) < (bn : Int) := by omega
  have HL : Hid (B.length ≤ 2000) := Lib.hid (by rw [← HBN.out]; omega)
  obtain ⟨⟨os, n, g⟩, hT⟩ : ∃ T, T = parseL B (B.length + 1) 0 := ⟨_, rfl⟩
  obtain ⟨_, hs1, hs2, hs3⟩ := parse_small B HBB.out (by have := HL.out; omega) os n g hT.symm
  have hds : ∀ o ∈ os, o.data.length ≤ 1000000 := fun o ho => by
    have h1 : o.data.length ≤ dsum os := dsum_mem os o ho
    have := HL.out
    omega
  obtain ⟨E, hE⟩ : ∃ E, E = errOf g := ⟨_, rfl⟩
  have HT := Lib.hid hT.symm
  have HE := Lib.hid hE
  have HS1 := Lib.hid hs1
  have HS3 := Lib.hid hs3
  have HDS := Lib.hid hds
  obtain ⟨k, hk⟩ : ∃ k, k = os.length := ⟨_, rfl⟩
  have HK := Lib.hid hk
  have hk2 : k ≤ 2000 := by have := HL.out; omega
  clear hT hE hs1 hs2 hs3 hds hk
  go_enter Tryd.func3, Tryd.ntmps3
  go_wp2_with fail
  refine HALI.out.mono ?_
  rintro e W1 ⟨rfl, b1⟩
  have HB1 := Lib.hid b1
  have HR1 := Lib.hid (HB.out.below b1)
  clear b1 HB
  go_wp2_with fail
  refine (rcopy_any _ B _ HR1.out.1 (by have := HL.out; omega)).mono ?_
  rintro e W2 ⟨um, rfl, hum, b2⟩
  have HU2 := Lib.hid hum
  have HB2 := Lib.hid (HB1.out.trans (b2.mono HB1.out.size))
  have HR2 := Lib.hid (HR1.out.below b2)
  clear hum b2 HB1 HR1
  go_wp2_with fail
  have hp := parse_any _ B _ HU2.out.cut HBB.out (by have := HL.out; omega)
  rw [HT.out] at hp
  refine hp.mono ?_
  rintro e W3 ⟨u1, P1, he, hP1, hm1, b3⟩
  have he : e = .returned (.tuple #[u1, .int .i64 n, .int .i64 (errOf g)]) := he
  rw [← HE.out] at he
  subst he
  have HP1 := Lib.hid hP1
  have HM1 : Hid (P1.map (·.1) = os) := Lib.hid hm1
  have HU3 := Lib.hid (HU2.out.below b3)
  have HB3 := Lib.hid (HB2.out.trans (b3.mono HB2.out.size))
  have HR3 := Lib.hid (HR2.out.below b3)
  clear hp hP1 hm1 b3 HU2 HB2 HR2
  go_wp2_with fail
  have hp := rparse_any _ B _ HR3.out.1 HBB.out (by have := HL.out; omega)
  rw [HT.out] at hp
  refine hp.mono ?_
  rintro e W4 ⟨u2, P2, he, hP2, hm2, b4⟩
  have he : e = .returned (.tuple #[u2, .int .i64 n, .int .i64 (errOf g)]) := he
  rw [← HE.out] at he
  subst he
  have HM2 : Hid (P2.map (·.1) = os) := Lib.hid hm2
  have hA1 : OrdsAt W4 u1 os := by have := (HP1.out.below b4).at; rwa [HM1.out] at this
  have hA2 : OrdsAt W4 u2 os := by have := hP2.at; rwa [HM2.out] at this
  have HU4 := Lib.hid (HU3.out.below b4)
  have HB4 := Lib.hid (HB3.out.trans (b4.mono HB3.out.size))
  have HR4 := Lib.hid (HR3.out.below b4)
  obtain ⟨a1, c1, rfl, _⟩ := id hA1
  obtain ⟨a2, c2, rfl, _⟩ := id hA2
  rw [← HK.out] at hA1 hA2 ⊢
  have HA1 := Lib.hid hA1
  have HA2 := Lib.hid hA2
  have HSM := Lib.hid (Base.same_any um _ B B W4 HU4.out.row HR4.out.1 (by have := HL.out; unfold maxLen; omega))
  rw [decide_eq_true rfl] at HSM
  clear hp hP2 hm2 b4 hA1 hA2 HU3 HB3 HR3 HU4 HR4 HP1
  go_wp2_with fail
  refine HSM.out.mono ?_
  rintro e W5 ⟨rfl, m5, h5⟩
  have b45 : Below W4.heap.size W4 W5 := by rw [h5]; exact below_drewN (Below.refl _ _) m5
  have HA15 := Lib.hid (HA1.out.below b45)
  have HA25 := Lib.hid (HA2.out.below b45)
  have HB5 := Lib.hid (HB4.out.trans (b45.mono HB4.out.size))
  clear h5 b45 HA1 HA2 HB4 HSM
  go_upto_region 11 with fail
  go_loopw [55] (fun i wr => ∃ j : Nat, j ≤ k ∧ i = .int .i64 j ∧ Below W5.heap.size W5 wr) (fun i _ => k - (intOf i).toNat)
  case atStart => exact ⟨0, by omega, rfl, Below.refl _ _⟩
  case round =>
    obtain ⟨j, hj, rfl, hold⟩ := hrel
    have HO := Lib.hid hold
    clear hold
    by_cases hjk : j < k
    · have hjki : (j : Int) < (k : Int) := by omega
      have hj0 : (0 : Int) ≤ (j : Int) := Int.natCast_nonneg _
      obtain ⟨p, hp⟩ : ∃ p, os[j]? = some p := ⟨_, List.getElem?_eq_getElem (by rw [← HK.out]; exact hjk)⟩
      obtain ⟨_, _, e1, hr⟩ := HA15.out.below HO.out
      obtain ⟨_, _, e2, hr2⟩ := HA25.out.below HO.out
      injection e1 with e1 ea eb
      injection e2 with e2 ec ed
      subst e1 e2 eb ed
      clear ea ec
      obtain ⟨g1, off, rfl, _, hc⟩ := hr (by intro e; rw [e] at hp; simp at hp)
      obtain ⟨g2, off2, rfl, _, hc2⟩ := hr2 (by intro e; rw [e] at hp; simp at hp)
      obtain ⟨vp, vd, d, dp, dd⟩ := hc j p hp
      obtain ⟨vp2, vd2, f, fp, fd⟩ := hc2 j p hp
      have RP : Hid (OrR wr p (.agg #[.int .u8 p.kind, .int .i64 p.addr, .int .u8 p.byte, .bool p.ge, vp, vd])) := Lib.hid ⟨vp, vd, rfl, dp, dd⟩
      have RQ : Hid (OrR wr p (.agg #[.int .u8 p.kind, .int .i64 p.addr, .int .u8 p.byte, .bool p.ge, vp2, vd2])) := Lib.hid ⟨vp2, vd2, rfl, fp, fd⟩
      have hpo := Lib.hid (HS3.out p (List.mem_of_getElem? hp))
      have hpd := Lib.hid (HDS.out p (List.mem_of_getElem? hp))
      have S1 : Hid (OC g1 (off + j * 6) p vp vd wr.drew ∧ OC g2 (off2 + j * 6) p vp2 vd2 wr.drew) := Lib.hid ⟨d, f⟩
      have RP1 := Lib.hid (RP.out.below (Below.drew (Below.refl _ wr)))
      have RQ1 := Lib.hid (RQ.out.below (Below.drew (Below.refl _ wr)))
      clear hp hc hc2 hr hr2 dp dd fp fd
      go_upto_region 13 with fail
      first
      | (go_region_held3 (fun W => (W.cell? ⟨g1, off + j * 6, none⟩ = some (.int .u8 p.kind) ∧ W.cell? ⟨g1, off + j * 6 + 1, none⟩ = some (.int .i64 p.addr) ∧ W.cell? ⟨g1, off + j * 6 + 2, none⟩ = some (.int .u8 p.byte) ∧ W.cell? ⟨g1, off + j * 6 + 3, none⟩ = some (.bool p.ge) ∧ W.cell? ⟨g1, off + j * 6 + 4, none⟩ = some vp ∧ W.cell? ⟨g1, off + j * 6 + 5, none⟩ = some vd) ∧ (W.cell? ⟨g2, off2 + j * 6, none⟩ = some (.int .u8 p.kind) ∧ W.cell? ⟨g2, off2 + j * 6 + 1, none⟩ = some (.int .i64 p.addr) ∧ W.cell? ⟨g2, off2 + j * 6 + 2, none⟩ = some (.int .u8 p.byte) ∧ W.cell? ⟨g2, off2 + j * 6 + 3, none⟩ = some (.bool p.ge) ∧ W.cell? ⟨g2, off2 + j * 6 + 4, none⟩ = some vp2 ∧ W.cell? ⟨g2, off2 + j * 6 + 5, none⟩ = some vd2))
        (with_reducible (first | assumption | exact S1.out | exact S2.out))
        (first | (go_at_call 12; refine (requal_any RP1.out RQ1.out hpo.out hpo.out hpd.out).mono ?_; rw [sameO_self]; rintro e W2 ⟨rfl, b2⟩; have S2 : Hid (OC g1 (off + j * 6) p vp vd W2 ∧ OC g2 (off2 + j * 6) p vp2 vd2 W2) := Lib.hid ⟨OC.below S1.out.1 b2, OC.below S1.out.2 b2⟩; have B2 := Lib.hid (HO.out.trans ((Below.drew (Below.refl _ wr)).trans b2 |>.mono HO.out.size)); clear b2)))
      | fail
      all_goals
        go_wp2_with fail
        go_roundw
        case rel => exact ⟨j + 1, by omega, by go_num, B2.out⟩
        case measure => simp [intOf]; omega
    · obtain rfl : k = j := by omega
      have HBW := Lib.hid (HB5.out.trans (HO.out.mono HB5.out.size))
      go_wp2_with fail
      refine (plain_any c wr).mono ?_
      rintro e w' ⟨rfl, rfl⟩
      go_wp2_with fail
      refine (rplain_any c wr).mono ?_
      rintro e W6 ⟨rfl, b6⟩
      have HB6 := Lib.hid (HBW.out.trans (b6.mono HBW.out.size))
      clear b6
      go_wp2_with fail
      go_ret
      exact ⟨by simp, HB6.out⟩
end Go.Proofs.YtjeknociobbhpaaDoor.Ord
