/-
  The walk of OptionPlays.
-/
import Derived.Test.YtbliangchllmhaaOptPlaysD
namespace Go.Proofs.Ytbliangchllmhaa.Opt
open Go.RowKit Base
set_option linter.unusedVariables false

set_option maxRecDepth 100000 in
set_option maxHeartbeats 8000000 in
theorem optionPlays_law {w : World} (u : Value) (A : List Int) (hA : RowOf .u8 w u A ∧ A.length ≤ maxLen ∧ ∀ n ∈ A, Open.Byte n) (v : Value) (B : List Int) (hB : RowOf .u8 w v B ∧ B.length ≤ maxLen ∧ ∀ n ∈ B, Open.Byte n)
    (z : Value) (L : List (Bool × Nat × Nat)) (hL : Open.StepsAt w z L ∧ L.length ≤ maxLen ∧ ∀ p ∈ L, p.2.1 < 256 ∧ p.2.2 < 256) (most : Int) (hmost : (Lit.int .i64 most).wf = true) :
    Calls Try.prog 8 #[u, v, z, .int .i64 most] w fun e W' => e = .returned (.bool true) ∧ Below w.heap.size w W' := by
  obtain ⟨hA, hA2, hA3⟩ := hA
  obtain ⟨hB, hB2, hB3⟩ := hB
  obtain ⟨⟨la, lcap, rfl, hL⟩, hL2, hL3⟩ := hL
  have HRA := Lib.hid hA
  have HRB := Lib.hid hB
  obtain ⟨ua, ucap, rfl, _⟩ := hA
  obtain ⟨va, vcap, rfl, _⟩ := hB
  obtain ⟨na, hna⟩ : ∃ n, n = A.length := ⟨_, rfl⟩
  obtain ⟨nb, hnb⟩ : ∃ n, n = B.length := ⟨_, rfl⟩
  obtain ⟨n, hn⟩ : ∃ n, n = L.length := ⟨_, rfl⟩
  have HA2 := Lib.hid hA2
  have HB2 := Lib.hid hB2
  have HA3 := Lib.hid hA3
  have HB3 := Lib.hid hB3
  rw [← hn] at hL2 ⊢
  rw [← hna] at HRA hA2 ⊢
  rw [← hnb] at HRB hB2 ⊢
  unfold maxLen at hA2 hB2 hL2
  have HN := Lib.hid hn
  have HL := Lib.hid hL
  have HL3 := Lib.hid hL3
  have HNA := Lib.hid hna
  have HNB := Lib.hid hnb
  clear hn hna hnb hA3 hB3 hL hL3
  by_cases hbig : n ≤ 60 ∧ na ≤ 30 ∧ nb ≤ 30
  · obtain ⟨b1, b2, b3⟩ := hbig
    have d1 : decide ((60 : Int) < (n : Int)) = false := by simp; omega
    have d2 : decide ((30 : Int) < (na : Int)) = false := by simp; omega
    have d3 : decide ((30 : Int) < (nb : Int)) = false := by simp; omega
    go_enter Try.func8, Try.ntmps8
    go_wp2_with (go_at_call 30; refine (alive_any _).mono ?_; rintro e w1 ⟨rfl, hb1⟩)
    have HU1 := Lib.hid (HRA.out.below hb1)
    have HV1 := Lib.hid (HRB.out.below hb1)
    refine (new_st (w := w) _ _ A B (mayM A B) HU1.out HV1.out HA3.out HB3.out HA2.out HB2.out rfl hb1).mono ?_
    rintro e W1 ⟨rfl, T1, bn⟩
    obtain ⟨b, hb⟩ : ∃ b, b = w1.heap.size := ⟨_, rfl⟩
    rw [← hb] at T1 ⊢
    obtain ⟨M, hM⟩ : ∃ M, M = mayM A B := ⟨_, rfl⟩
    rw [← hM] at T1
    have HM := Lib.hid hM
    have T1 : OA b w W1 M a0 := T1
    clear hb bn hb1 hM HU1 HV1
    go_wp2_with fail
    obtain ⟨X, hX⟩ : ∃ X, X = W1.heap.size := ⟨_, rfl⟩
    obtain ⟨W2, hW2⟩ : ∃ W2, W2 = W1.alloc (.cells #[.slice none 0 0, .slice ua na ucap, .slice va nb vcap] 61) := ⟨_, rfl⟩
    have M0 : PA b X (.slice ua na ucap) (.slice va nb vcap) w M 0 W2 a0 (.slice none 0 0) [] := by
      have hl := T1.opt.lt
      rw [hX, hW2]
      exact ⟨T1.below (below_alloc _ _), Like.nil, ⟨heap_alloc_new W1 _, ⟨rfl, .inl ⟨rfl, rfl⟩⟩, by omega⟩, by simp⟩
    rw [← hW2, ← hX]
    have HM0 := Lib.hid M0
    clear hW2 hX T1 M0 d1 d2 d3
    go_loopw [46] (fun i wr => ∃ k : Nat, k ≤ n ∧ i = .int .i64 k ∧ PlayRel b X (.slice ua na ucap) (.slice va nb vcap) w M k wr) (fun i _ => n - (intOf i).toNat)
    case atStart => exact ⟨0, by omega, rfl, a0, _, [], HM0.out⟩
    case round =>
      obtain ⟨k, hk, rfl, S, x, R, MA⟩ := hrel
      clear HM0
      have HMA := Lib.hid MA
      by_cases hkn : k < n
      · have hkl : k < L.length := by rw [← HN.out]; exact hkn
        obtain ⟨g, off, rfl, hgw, hcells⟩ := HL.out (by intro e; rw [e] at hkl; simp at hkl)
        obtain ⟨q, hq⟩ : ∃ q, L[k]? = some q := ⟨_, List.getElem?_eq_getElem hkl⟩
        obtain ⟨wish, c, o⟩ := q
        have hco := HL3.out _ (List.mem_of_getElem? hq)
        have hc256 : c < 256 := hco.1
        have ho : o < 256 := hco.2
        obtain ⟨d0, d1, d2⟩ := hcells k wish c o hq
        have hbw := MA.oa.old
        have d0 := (hbw.cell (p := ⟨g, off + k * 3, none⟩) hgw).trans d0
        have d1 := (hbw.cell (p := ⟨g, off + k * 3 + 1, none⟩) hgw).trans d1
        have d2 := (hbw.cell (p := ⟨g, off + k * 3 + 2, none⟩) hgw).trans d2
        have hbl := MA.oa.opt.lt
        clear hcells hq hbw MA hco hkl
        go_upto_if 53 with fail
        obtain ⟨ow, how⟩ : ∃ ow, ow = wr.heap.size := ⟨_, rfl⟩
        have hb1 : Below wr.heap.size wr (((wr.alloc (.cells #[.bool wish, .int .u8 c, .int .u8 o] 63)).alloc (.cells #[] 5)).alloc (.cells #[] 5)) := ((below_alloc wr _).trans ((below_alloc _ _).mono (by simp))).trans ((below_alloc _ _).mono (by simp; omega))
        have hcell : (((wr.alloc (.cells #[.bool wish, .int .u8 c, .int .u8 o] 63)).alloc (.cells #[] 5)).alloc (.cells #[] 5)).heap[ow]? = some (.cells #[.bool wish, .int .u8 c, .int .u8 o] 63 (0, 0)) := by
          rw [Below.heap_alloc _ _ _ (by rw [World.size_alloc, World.size_alloc, how]; omega), Below.heap_alloc _ _ _ (by rw [World.size_alloc, how]; omega), how]
          exact heap_alloc_new wr _
        rw [← how]
        obtain ⟨W2', hW2'⟩ : ∃ W, W = ((wr.alloc (.cells #[.bool wish, .int .u8 c, .int .u8 o] 63)).alloc (.cells #[] 5)).alloc (.cells #[] 5) := ⟨_, rfl⟩
        rw [← hW2'] at hb1 hcell ⊢
        have M1 := HMA.out.below hb1
        have hob : ow ≠ b := by omega
        have HM1 := Lib.hid M1
        have HC1 := Lib.hid hcell
        have o1 : W2'.cell? ⟨ow, 1, none⟩ = some (.int .u8 c) := by simp [World.cell?, hcell]
        have o2 : W2'.cell? ⟨ow, 2, none⟩ = some (.int .u8 o) := by simp [World.cell?, hcell]
        have hlo : ow < W2'.heap.size := lt_of_block hcell
        have hlen : R.length ≤ 200 := by have := M1.len; omega
        have HLEN := Lib.hid hlen
        obtain ⟨xa, xc, rfl⟩ := M1.pb.row.slice
        obtain ⟨xn, hxn⟩ : ∃ xn, xn = R.length := ⟨_, rfl⟩
        rw [← hxn] at HM1
        have hxX : X < W2'.heap.size := M1.pb.cells.2.2.2.1
        have hox : ow ≠ X := by have := (HMA.out.pb.cells).2.2.2.1; omega
        clear hb1 hcell how hW2' M1 d0 d1 d2 HMA hlen hxn
        go_cut [13, 14] (fun g wn wx => PlayCut b X ow (.slice ua na ucap) (.slice va nb vcap) w M (k + 1) wish c o g wn wx)
        case first =>
          cases wish with
          | true =>
            go_wp2_with fail
            refine (want_st (w := w) (c : Int) (o : Int) o ho rfl (wantS S c o).1 (wantS S c o).2.1 (wantS S c o).2.2 HM1.out.oa rfl rfl).mono ?_
            rintro e W3 ⟨y1, rfl, R1, T3, t3⟩
            have P3 := HM1.out.pb.turn t3
            have hcell3 := (t3.block ow hlo hob).trans HC1.out
            have o1 : W3.cell? ⟨ow, 1, none⟩ = some (.int .u8 c) := by simp [World.cell?, hcell3]
            have o2 : W3.cell? ⟨ow, 2, none⟩ = some (.int .u8 o) := by simp [World.cell?, hcell3]
            obtain ⟨x0, x1, x2, xl, xf⟩ := P3.cells
            obtain ⟨n1, hn1⟩ : ∃ n, n = (wantS S c o).2.2 := ⟨_, rfl⟩
            rw [← hn1]
            have HP3 := Lib.hid P3
            have HC3 := Lib.hid hcell3
            have HR1 := Lib.hid R1.row
            have HT3 := Lib.hid T3
            have HN1 := Lib.hid hn1
            clear P3 hcell3 R1 T3 t3 hn1
            go_wp2_with fail
            refine (rwant_st X na nb _ ua va ucap vcap R A B HNA.out HNB.out c o W3 HP3.out.row HLEN.out (fun s => HM1.out.like.le5 s o) hc256 (HRA.out.below HT3.out.old) (HRB.out.below HT3.out.old) HA2.out HB2.out xl).mono ?_
            rintro e W4 ⟨x', y2, rfl, R4, RY, b4⟩
            have hlk := HM1.out.like.want (c : Int) o ho
            obtain ⟨lk1, lk2, lk3⟩ := hlk
            have hcell4 := (b4.block ow (lt_of_block HC3.out)).trans HC3.out
            obtain ⟨xa', xc', rfl⟩ := R4.slice
            obtain ⟨m4, hm4⟩ : ∃ m, m = (rwantR R (c : Int) o).1.length := ⟨_, rfl⟩
            rw [← hm4] at R4 ⊢
            have hlen4 : (rwantR R (c : Int) o).1.length ≤ k + 1 := by have := HM1.out.len; omega
            have hn2 : (rwantR R (c : Int) o).2.2 = n1 := by rw [lk2, HN1.out]
            rw [hn2]
            rw [lk2] at RY
            obtain ⟨W5, hW5⟩ : ∃ W, W = W4.alloc (.cells #[.slice xa' m4 xc', .slice ua na ucap, .slice va nb vcap] 61) := ⟨_, rfl⟩
            obtain ⟨tb, htb⟩ : ∃ tb, tb = W4.heap.size := ⟨_, rfl⟩
            have b5 : Below W4.heap.size W4 W5.drew := by rw [hW5]; exact Below.drew (below_alloc W4 _)
            have ts : TS tb (.slice xa' m4 xc') (.slice ua na ucap) (.slice va nb vcap) W5 := by
              rw [hW5, htb]
              exact ⟨by simp [go_sem], by simp [go_sem], by simp [go_sem]⟩
            have hX4 : X < W4.heap.size := Nat.lt_of_lt_of_le xl b4.size
            have htX : tb ≠ X := by omega
            have hP := (HP3.out.below b4).below b5
            have hP5 := (HP3.out.below b4).below (show Below W4.heap.size W4 W5 by rw [hW5]; exact below_alloc W4 _)
            have HP5 := Lib.hid hP5
            clear hP5
            have HL1 := Lib.hid lk1
            have HLN := Lib.hid hlen4
            have HP4 := Lib.hid hP
            have HC4 := Lib.hid ((b5.block ow (lt_of_block hcell4)).trans hcell4)
            have HR4 := Lib.hid (R4.below b5)
            have HRG := Lib.hid ((HR1.out.below b4).below b5)
            have HRN := Lib.hid (RY.row.below b5)
            have HT4 := Lib.hid ((HT3.out.below b4).below b5)
            have HTS := Lib.hid ts
            have HTX := Lib.hid htX
            have HW5 := Lib.hid hW5.symm
            have HTB := Lib.hid htb.symm
            clear lk1 lk2 lk3 hcell4 R4 RY b4 hm4 hlen4 o1 o2 x0 x1 x2 xl xf b5 ts htX hW5 htb hP hn2 hX4
            go_upto_region 13 with fail
            rw [HW5.out, HTB.out]
            obtain ⟨x0, x1, x2, xl, xf⟩ := HP5.out.cells
            first
            | (go_region_held3 (fun W => W.cell? ⟨tb, 0, none⟩ = some (.slice xa' m4 xc') ∧ W.cell? ⟨tb, 1, none⟩ = some (.slice ua na ucap) ∧ W.cell? ⟨tb, 2, none⟩ = some (.slice va nb vcap))
              (with_reducible (first | assumption | exact TS.all HTS.out.drew | exact TS.all (TS.set (TS.of (by assumption)) HTX.out) | exact TS.all (TS.put (TS.of (by assumption)) HTX.out)))
              (fail))
            | fail
            all_goals
              go_wp2_with fail
              go_meet
              exact PlayCut.mk HT4.out HL1.out HP4.out HLN.out HR4.out HRG.out HRN.out (wsaid_le S c o) HC4.out hox (by first | exact .inl rfl | exact .inr rfl)
          | false =>
            go_wp2_with fail
            refine (got_st (w := w) (c : Int) (o : Int) o ho rfl (gotS M S c o).1 (gotS M S c o).2 HM1.out.oa rfl rfl).mono ?_
            rintro e W3 ⟨y1, rfl, R1, T3, t3⟩
            have P3 := HM1.out.pb.turn t3
            have hcell3 := (t3.block ow hlo hob).trans HC1.out
            have o1 : W3.cell? ⟨ow, 1, none⟩ = some (.int .u8 c) := by simp [World.cell?, hcell3]
            have o2 : W3.cell? ⟨ow, 2, none⟩ = some (.int .u8 o) := by simp [World.cell?, hcell3]
            obtain ⟨x0, x1, x2, xl, xf⟩ := P3.cells
            have HP3 := Lib.hid P3
            have HC3 := Lib.hid hcell3
            have HR1 := Lib.hid R1.row
            have HT3 := Lib.hid T3
            clear P3 hcell3 R1 T3 t3
            go_wp2_with fail
            refine (rgot_st X na nb _ ua va ucap vcap R A B HNA.out HNB.out c o W3 HP3.out.row HLEN.out (fun s => HM1.out.like.le5 s o) hc256 (HRA.out.below HT3.out.old) (HRB.out.below HT3.out.old) HA2.out HB2.out xl).mono ?_
            rintro e W4 ⟨x', y2, rfl, R4, RY, b4⟩
            have hlk := HM1.out.like.got A B HA3.out HB3.out (c : Int) o ho
            rw [← HM.out] at hlk
            obtain ⟨lk1, lk2, lk3⟩ := hlk
            have P4 := HP3.out.below b4
            obtain ⟨x0, x1, x2, xl, xf⟩ := P4.cells
            have hcell4 := (b4.block ow (lt_of_block HC3.out)).trans HC3.out
            obtain ⟨xa', xc', rfl⟩ := R4.slice
            obtain ⟨m4, hm4⟩ : ∃ m, m = (rgotR A B R (c : Int) o).1.length := ⟨_, rfl⟩
            rw [← hm4] at R4 ⊢
            have hlen4 : (rgotR A B R (c : Int) o).1.length ≤ k + 1 := by have := HM1.out.len; omega
            rw [lk2] at RY
            have HL1 := Lib.hid lk1
            have HLN := Lib.hid hlen4
            have HP4 := Lib.hid P4
            have HC4 := Lib.hid hcell4
            have HR4 := Lib.hid R4
            have HRG := Lib.hid (HR1.out.below b4)
            have HRN := Lib.hid RY.row
            have HT4 := Lib.hid (HT3.out.below b4)
            clear lk1 lk2 lk3 P4 hcell4 R4 RY b4 hm4 hlen4 o1 o2
            go_wp2_with fail
            go_meet
            exact PlayCut.mk HT4.out HL1.out HP4.out HLN.out HR4.out HRG.out HRN.out (said_le M S c o) HC4.out hox (by first | exact .inl rfl | exact .inr rfl)
        case rest =>
          obtain ⟨S', x', R', Y, M5, RG, RN, hY, hcell5⟩ := hcut
          have HQ := Lib.hid (show QA b X ow (.slice ua na ucap) (.slice va nb vcap) w M (k + 1) wish c o S' x' R' wc from ⟨M5, hcell5⟩)
          have HRG := Lib.hid RG
          have HRN := Lib.hid RN
          have hYm : Y.length ≤ maxLen := by unfold maxLen; omega
          have HY := Lib.hid hYm
          have hk60 : k < 60 := by omega
          clear M5 RG RN hcell5 hY hYm HM1 HC1 HLEN o1 o2 hlo hxX
          go_upto_region 18 with fail
          go_cut [104] from 94 to 104 (fun v wx => v = .bool false ∧ QA b X ow (.slice ua na ucap) (.slice va nb vcap) w M (k + 1) wish c o S' x' R' wx)
          case first =>
            have hs := HQ.out.s
            obtain ⟨s0, s1, s2, _⟩ := hs
            have hbz := HQ.out.pa.like.busy
            obtain ⟨bz0, hbz0⟩ : ∃ z, z = busyL R' := ⟨_, rfl⟩
            have HBZ := Lib.hid hbz0
            have HBZ2 := Lib.hid (hbz0.trans hbz)
            clear hbz hbz0
            first
            | (go_region_held3 (fun W => W.cell? ⟨X, 0, none⟩ = some x' ∧ W.cell? ⟨X, 1, none⟩ = some (.slice ua na ucap) ∧ W.cell? ⟨X, 2, none⟩ = some (.slice va nb vcap) ∧ QA b X ow (.slice ua na ucap) (.slice va nb vcap) w M (k + 1) wish c o S' x' R' W)
              (with_reducible (first | assumption | exact QA.s HQ.out.drew | exact QA.s (HQ.out.drewN _) | exact QA.s (QA.drewN (QA.of_s (by assumption)) _) | exact QA.s (QA.below (QA.of_s (by assumption)) (by assumption))))
              (first
              | (go_at_call 19; (with_reducible refine (same_any _ _ Y Y _ (HRG.out.below (Below.drew (Below.refl _ _))) (HRN.out.below (Below.drew (Below.refl _ _))) HY.out).mono ?_); rintro e w8 ⟨rfl, nn, rfl⟩; rw [decide_eq_true rfl])
              | (go_at_call 36; (with_reducible refine (busy_st (w := w) bz0 (QA.pa (QA.of_s (by assumption))).oa HBZ2.out.symm).mono ?_); rintro e w9 ⟨rfl, rfl⟩)
              | (go_at_call 37; (with_reducible refine (rbusy_any (X + 1) x' _ _ R' _ (QA.pa (QA.of_s (by assumption))).pb.row (by have := HQ.out.pa.len; omega)).mono ?_); rintro e w10 ⟨rfl, b10⟩; rw [← HBZ.out])))
            | fail
            all_goals
              go_wp2_with fail
              go_meet
              exact ⟨by cases bz0 <;> rfl, QA.of_s (by assumption)⟩
          case rest =>
            obtain ⟨rfl, Q5⟩ := hcut
            clear HQ HRG HRN HY
            obtain ⟨W4, hW4⟩ : ∃ W4, W4 = wc := ⟨_, rfl⟩
            rw [← hW4] at Q5 ⊢
            clear hW4
            have Q6 := Q5.below (below_alloc W4 (.cells #[.bool true, .bool false] 4))
            have hsl := heap_alloc_new W4 (.cells #[.bool true, .bool false] 4)
            obtain ⟨sl, hsl'⟩ : ∃ sl, sl = W4.heap.size := ⟨_, rfl⟩
            obtain ⟨W5, hW5⟩ : ∃ W5, W5 = W4.alloc (.cells #[.bool true, .bool false] 4) := ⟨_, rfl⟩
            rw [← hW5] at Q6 hsl
            rw [← hsl'] at hsl
            have HQ6 := Lib.hid Q6
            have HSL := Lib.hid hsl
            have HW5 := Lib.hid hW5.symm
            have HSL' := Lib.hid hsl'.symm
            clear Q5 Q6 hsl hW5 hsl'
            go_wp2_with fail
            rw [HW5.out, HSL'.out]
            go_loopw [107] (fun i wx => ∃ j : Int, (j = 0 ∨ j = 1 ∨ j = 2) ∧ i = .int .i64 j ∧ Below W5.heap.size W5 wx) (fun i _ => 2 - (intOf i).toNat)
            case atStart => exact ⟨0, .inl rfl, rfl, Below.refl _ _⟩
            case round =>
              obtain ⟨j, hj, rfl, hbx⟩ := hrel
              have Q7 := HQ6.out.below hbx
              have hsl7 := (hbx.block sl (lt_of_block HSL.out)).trans HSL.out
              obtain ⟨x0, x1, x2, _⟩ := Q7.s
              have o2 : wr.cell? ⟨ow, 2, none⟩ = some (.int .u8 o) := by simp [World.cell?, Q7.cell]
              have l0 : wr.cell? ⟨sl, 0, none⟩ = some (.bool true) := by simp [World.cell?, hsl7]
              have l1 : wr.cell? ⟨sl, 1, none⟩ = some (.bool false) := by simp [World.cell?, hsl7]
              have HM7 := Lib.hid Q7
              have HBX := Lib.hid hbx
              clear Q7 hsl7 hbx
              rcases hj with rfl | rfl | rfl
              · have hsame := HM7.out.pa.like.same true o ho
                obtain ⟨st, hst⟩ : ∃ st, st = stOf S' true o := ⟨_, rfl⟩
                have HSAME := Lib.hid (hsame.trans hst.symm)
                have HST := Lib.hid hst
                clear hsame hst
                by_cases h1 : st = 1
                · have h1b : ((st : Int) == 1) = true := by simp; omega
                  have H1 := Lib.hid h1
                  clear h1
                  go_wp2_with fail
                  refine (rstate_any (X + 1) x' _ _ R' true o wr HM7.out.pa.pb.row (by have := HM7.out.pa.len; omega)).mono ?_
                  rintro e W8 ⟨rfl, b8⟩
                  rw [HSAME.out]
                  have HM8 := Lib.hid (HM7.out.below b8)
                  have HB8 := Lib.hid (HBX.out.trans (b8.mono HBX.out.size))
                  have o2 : W8.cell? ⟨ow, 2, none⟩ = some (.int .u8 o) := by simp [World.cell?, HM8.out.cell]
                  clear b8
                  go_wp2_with fail
                  refine (state_st (w := w) true (o : Int) o ho rfl (st : Int) HM8.out.pa.oa (by rw [HST.out])).mono ?_
                  rintro e W' ⟨rfl, rfl⟩
                  go_wp2_with fail
                  refine (on_st (w := w) true (o : Int) o ho rfl true HM8.out.pa.oa (decide_eq_true (by rw [← HST.out]; exact H1.out))).mono ?_
                  rintro e W' ⟨rfl, rfl⟩
                  go_wp2_with fail
                  go_roundw
                  case rel => exact ⟨1, (.inr (.inl rfl)), rfl, HB8.out⟩
                  case measure => simp [intOf]
                · have h1b : ((st : Int) == 1) = false := by simp; omega
                  have H1 := Lib.hid h1
                  clear h1
                  go_wp2_with fail
                  refine (rstate_any (X + 1) x' _ _ R' true o wr HM7.out.pa.pb.row (by have := HM7.out.pa.len; omega)).mono ?_
                  rintro e W8 ⟨rfl, b8⟩
                  rw [HSAME.out]
                  have HM8 := Lib.hid (HM7.out.below b8)
                  have HB8 := Lib.hid (HBX.out.trans (b8.mono HBX.out.size))
                  have o2 : W8.cell? ⟨ow, 2, none⟩ = some (.int .u8 o) := by simp [World.cell?, HM8.out.cell]
                  clear b8
                  go_wp2_with fail
                  refine (state_st (w := w) true (o : Int) o ho rfl (st : Int) HM8.out.pa.oa (by rw [HST.out])).mono ?_
                  rintro e W' ⟨rfl, rfl⟩
                  go_wp2_with fail
                  refine (on_st (w := w) true (o : Int) o ho rfl false HM8.out.pa.oa (decide_eq_false (by rw [← HST.out]; exact H1.out))).mono ?_
                  rintro e W' ⟨rfl, rfl⟩
                  go_wp2_with fail
                  go_roundw
                  case rel => exact ⟨1, (.inr (.inl rfl)), rfl, HB8.out⟩
                  case measure => simp [intOf]
              · have hsame := HM7.out.pa.like.same false o ho
                obtain ⟨st, hst⟩ : ∃ st, st = stOf S' false o := ⟨_, rfl⟩
                have HSAME := Lib.hid (hsame.trans hst.symm)
                have HST := Lib.hid hst
                clear hsame hst
                by_cases h1 : st = 1
                · have h1b : ((st : Int) == 1) = true := by simp; omega
                  have H1 := Lib.hid h1
                  clear h1
                  go_wp2_with fail
                  refine (rstate_any (X + 1) x' _ _ R' false o wr HM7.out.pa.pb.row (by have := HM7.out.pa.len; omega)).mono ?_
                  rintro e W8 ⟨rfl, b8⟩
                  rw [HSAME.out]
                  have HM8 := Lib.hid (HM7.out.below b8)
                  have HB8 := Lib.hid (HBX.out.trans (b8.mono HBX.out.size))
                  have o2 : W8.cell? ⟨ow, 2, none⟩ = some (.int .u8 o) := by simp [World.cell?, HM8.out.cell]
                  clear b8
                  go_wp2_with fail
                  refine (state_st (w := w) false (o : Int) o ho rfl (st : Int) HM8.out.pa.oa (by rw [HST.out])).mono ?_
                  rintro e W' ⟨rfl, rfl⟩
                  go_wp2_with fail
                  refine (on_st (w := w) false (o : Int) o ho rfl true HM8.out.pa.oa (decide_eq_true (by rw [← HST.out]; exact H1.out))).mono ?_
                  rintro e W' ⟨rfl, rfl⟩
                  go_wp2_with fail
                  go_roundw
                  case rel => exact ⟨2, (.inr (.inr rfl)), rfl, HB8.out⟩
                  case measure => simp [intOf]
                · have h1b : ((st : Int) == 1) = false := by simp; omega
                  have H1 := Lib.hid h1
                  clear h1
                  go_wp2_with fail
                  refine (rstate_any (X + 1) x' _ _ R' false o wr HM7.out.pa.pb.row (by have := HM7.out.pa.len; omega)).mono ?_
                  rintro e W8 ⟨rfl, b8⟩
                  rw [HSAME.out]
                  have HM8 := Lib.hid (HM7.out.below b8)
                  have HB8 := Lib.hid (HBX.out.trans (b8.mono HBX.out.size))
                  have o2 : W8.cell? ⟨ow, 2, none⟩ = some (.int .u8 o) := by simp [World.cell?, HM8.out.cell]
                  clear b8
                  go_wp2_with fail
                  refine (state_st (w := w) false (o : Int) o ho rfl (st : Int) HM8.out.pa.oa (by rw [HST.out])).mono ?_
                  rintro e W' ⟨rfl, rfl⟩
                  go_wp2_with fail
                  refine (on_st (w := w) false (o : Int) o ho rfl false HM8.out.pa.oa (decide_eq_false (by rw [← HST.out]; exact H1.out))).mono ?_
                  rintro e W' ⟨rfl, rfl⟩
                  go_wp2_with fail
                  go_roundw
                  case rel => exact ⟨2, (.inr (.inr rfl)), rfl, HB8.out⟩
                  case measure => simp [intOf]
              · go_wp2_with fail
                go_roundw
                case rel => exact ⟨k + 1, by omega, by go_num, S', x', R', HM7.out.pa⟩
                case measure => simp [intOf]; omega
      · obtain rfl : n = k := by omega
        obtain ⟨q, hq⟩ : ∃ q : Nat, (q : Int) = 1 + most % 256 := ⟨(1 + most % 256).toNat, by omega⟩
        have hand : bits BinOp.and IntKind.i64 most 255 = (q : Int) - 1 := (and255 most).trans (by omega)
        have hq1 : 1 ≤ q := by omega
        have hq2 : q ≤ 256 := by omega
        have hq' : 1 + ((q : Int) - 1) = q := by omega
        have hR : R.length ≤ 1000 := by have := HMA.out.len; omega
        have hT : ∀ side, ((onL S side 256).take q).length ≤ maxLen := fun side => by rw [List.length_take]; unfold maxLen; omega
        have HR := Lib.hid hR
        have HT := Lib.hid hT
        have HLK := Lib.hid HMA.out.like
        obtain ⟨x0, x1, x2, _⟩ := HMA.out.s
        clear hq hR hT
        go_wp2_with fail
        first
        | (go_region_held3 (fun W => W.cell? ⟨X, 0, none⟩ = some x ∧ W.cell? ⟨X, 1, none⟩ = some (.slice ua na ucap) ∧ W.cell? ⟨X, 2, none⟩ = some (.slice va nb vcap) ∧ PA b X (.slice ua na ucap) (.slice va nb vcap) w M n W S x R)
          (with_reducible (first | assumption | exact PA.s (PA.below HMA.out (Below.drew (Below.refl _ _))) | exact PA.s (PA.below (PA.of_s (by assumption)) (by assumption)) | exact PA.s (PA.below (PA.of_s (by assumption)) (below_drewN (Below.refl _ _) _))))
          (first
          | (go_at_call 41; (with_reducible refine (lall_any b M S true q hq1 hq2 _ (PA.oa (PA.of_s (by assumption))).opt).mono ?_); rintro e w8 ⟨y1, rfl, Ry1, b8⟩)
          | (go_at_call 42; (with_reducible refine (lon_any (X + 1) x _ _ R true q hq1 hq2 _ (PA.pb (PA.of_s (by assumption))).row HR.out).mono ?_); rintro e w9 ⟨y2, rfl, Ry2, b9⟩; rw [HLK.out.onL true] at Ry2)
          | (go_at_call 19; (with_reducible refine (same_any y1 y2 ((onL S true 256).take q) ((onL S true 256).take q) _ (Ry1.row.below b9) Ry2.row (HT.out true)).mono ?_); rintro e w10 ⟨rfl, nn8, rfl⟩; rw [decide_eq_true rfl])
          | (go_at_call 41; (with_reducible refine (lall_any b M S false q hq1 hq2 _ (PA.oa (PA.of_s (by assumption))).opt).mono ?_); rintro e w11 ⟨y3, rfl, Ry3, b11⟩)
          | (go_at_call 42; (with_reducible refine (lon_any (X + 1) x _ _ R false q hq1 hq2 _ (PA.pb (PA.of_s (by assumption))).row HR.out).mono ?_); rintro e w12 ⟨y4, rfl, Ry4, b12⟩; rw [HLK.out.onL false] at Ry4)
          | (go_at_call 19; (with_reducible refine (same_any y3 y4 ((onL S false 256).take q) ((onL S false 256).take q) _ (Ry3.row.below b12) Ry4.row (HT.out false)).mono ?_); rintro e w13 ⟨rfl, nn11, rfl⟩; rw [decide_eq_true rfl])))
        | fail
        all_goals
          go_wp2_with fail
          go_ret
          exact ⟨rfl, (PA.of_s (by assumption)).oa.old⟩
  · have hcase : 60 < n ∨ (n ≤ 60 ∧ 30 < na) ∨ (n ≤ 60 ∧ na ≤ 30 ∧ 30 < nb) := by omega
    clear hbig
    rcases hcase with h | ⟨h, h'⟩ | ⟨h, h', h''⟩
    · have d1 : decide ((60 : Int) < (n : Int)) = true := by simp; omega
      go_enter Try.func8, Try.ntmps8
      go_wp2_with (go_at_call 30; refine (alive_any _).mono ?_; rintro e w1 ⟨rfl, hb1⟩)
      go_ret
      exact ⟨rfl, hb1⟩
    · have d1 : decide ((60 : Int) < (n : Int)) = false := by simp; omega
      have d2 : decide ((30 : Int) < (na : Int)) = true := by simp; omega
      go_enter Try.func8, Try.ntmps8
      go_wp2_with (go_at_call 30; refine (alive_any _).mono ?_; rintro e w1 ⟨rfl, hb1⟩)
      go_ret
      exact ⟨rfl, hb1⟩
    · have d1 : decide ((60 : Int) < (n : Int)) = false := by simp; omega
      have d2 : decide ((30 : Int) < (na : Int)) = false := by simp; omega
      have d3 : decide ((30 : Int) < (nb : Int)) = true := by simp; omega
      go_enter Try.func8, Try.ntmps8
      go_wp2_with (go_at_call 30; refine (alive_any _).mono ?_; rintro e w1 ⟨rfl, hb1⟩)
      go_ret
      exact ⟨rfl, hb1⟩
end Go.Proofs.Ytbliangchllmhaa.Opt
