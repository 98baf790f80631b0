/-
  The walk of PaintRounds.
-/
import Derived.Test.YtglkjcdbffkbcaaPaL
import Derived.Test.YtglkjcdbffkbcaaMaskA
namespace Go.Proofs.Ytglkjcdbffkbcaa.Pl
open Go.RowKit Go.Shelf Base
set_option linter.unusedVariables false
set_option linter.unusedSimpArgs false

/-- The bytes that are laid round. -/
def dvL (y : Int) (k : Nat) : List Int := (List.range k).map fun i : Nat => (y + i) % 256
theorem dvL_succ (y : Int) (k : Nat) : dvL y (k + 1) = dvL y k ++ [(y + k) % 256] := by unfold dvL; rw [List.range_succ, List.map_append]; rfl
theorem dvL_length (y : Int) (k : Nat) : (dvL y k).length = k := by simp [dvL]
theorem dvL_get (y : Int) {k i : Nat} (h : i < k) : (dvL y k)[i]?.getD 0 = (y + i) % 256 := by simp [dvL, h]
theorem dvL_byte (y : Int) (k : Nat) : ∀ x ∈ dvL y k, Byte x := by
  intro x hx
  obtain ⟨i, _, rfl⟩ := List.mem_map.1 hx
  exact ⟨Int.emod_nonneg _ (by decide), Int.emod_lt_of_pos _ (by decide)⟩
set_option maxRecDepth 100000 in
set_option maxHeartbeats 8000000 in
theorem paintRounds_law {w : World} (r c : Int) {p1 p2 p4 : Prop} (_ : p1) (_ : p2) (v0 : Value) (L0 : List Cl) (hL : ClsAt w v0 L0 ∧ L0.length ≤ maxLen ∧ ∀ x ∈ L0, x.Ok) (vt : Value) (os : List Or) (hT : OrdsAt w vt os ∧ os.length ≤ maxLen ∧ ∀ o ∈ os, OrOk o) (f : Int) (_ : p4) (y : Int) (hy : (Lit.int .u8 y).wf = true) :
    Calls Try.prog 7 #[.agg #[.int .i64 r, .int .i64 c], v0, vt, .int .i64 f, .int .u8 y] w fun e W => e = .returned (.bool true) ∧ Below w.heap.size w W := by
  obtain ⟨hv, hm, hok⟩ := hL
  obtain ⟨ht, htm, hto⟩ := hT
  obtain ⟨a0, cap0, hv0, _⟩ := id hv
  subst hv0
  obtain ⟨m0, hm0⟩ : ∃ m0, m0 = L0.length := ⟨_, rfl⟩
  have HV := Lib.hid hv
  have HM := Lib.hid hm
  have HOK := Lib.hid hok
  rw [← hm0] at HV hm ⊢
  have HM0 := Lib.hid hm0
  obtain ⟨W0, hW0⟩ : ∃ W0, W0 = w.alloc (.cells #[.int .i64 r, .int .i64 c] 23) := ⟨_, rfl⟩
  have hn0 : W0.heap[w.heap.size]? = some (.cells #[.int .i64 r, .int .i64 c] 23 (0, 0)) := by rw [hW0]; exact heap_alloc_new w _
  have HN0 := Lib.hid hn0
  have B0 := Lib.hid (show Below w.heap.size w W0 by rw [hW0]; exact below_alloc w _)
  have HW0 := Lib.hid hW0.symm
  clear hv hok hm0 hW0 hn0 hm
  obtain ⟨at0, capt, hvt, htc, _, _⟩ := id ht
  subst hvt
  obtain ⟨mt, hmt⟩ : ∃ mt, mt = os.length := ⟨_, rfl⟩
  rw [← hmt] at ht htc ⊢
  have HMT := Lib.hid hmt
  have HT := Lib.hid ht
  have HTC := Lib.hid htc
  have HTO := Lib.hid hto
  have HTM := Lib.hid htm
  clear hmt ht htc hto htm
  go_enter Try.func7, Try.ntmps7
  go_wp2_with fail
  rw [HW0.out]
  go_wp2_with (go_at_call 31; (with_reducible refine (pt_alive W0).mono ?_); rintro e w1 ⟨rfl, hb1⟩
               have n1 := (hb1.block _ (lt_of_block HN0.out)).trans HN0.out
               have q0 : w1.cell? ⟨w.heap.size, 0, none⟩ = some (.int .i64 r) := by simp [World.cell?, n1]
               have q1 : w1.cell? ⟨w.heap.size, 1, none⟩ = some (.int .i64 c) := by simp [World.cell?, n1]
               have B1 := Lib.hid (B0.out.trans (hb1.mono B0.out.size)); clear hb1 n1)
  go_at_call 32
  refine (made_any r c (.slice a0 m0 cap0) L0 w1 (HV.out.below (B1.out.mono (Nat.le_refl _))) HM.out).mono ?_
  rintro e w2 (⟨hno, pv, r', c', a', l', k', rfl, hb2⟩ | ⟨b, g, gx, n, hcn, hn1, hn2, rfl, hpl, hrow, hb, hg, hgx, hgb, hgg, hb2⟩)
  · unfold xV
    go_wp2_with fail
    go_ret
    exact ⟨rfl, B1.out.trans ((hb2.mono B1.out.size).alloc (by have := B1.out.size; have := hb2.size; omega) _)⟩
  unfold xV
  obtain ⟨L, hL⟩ : ∃ L, L = mL n L0 L0.length := ⟨_, rfl⟩
  rw [← hL] at hpl hrow
  have hlen : L.length = n := by rw [hL, mL_length]
  have hbo : BoL L := bo_all (fun x hx => by rw [hL] at hx; exact (mL_ok n HOK.out _ x hx).1)
  have hs1 := B1.out.size
  have HP := Lib.hid (show P1 w b g r c 0 L (w2.alloc (.cells #[.int .i64 r, .int .i64 c, .slice (some ⟨gx, 0, none⟩) n n, .int .i64 0] 28)) from ⟨hpl.alloc _, by omega, by omega⟩)
  have HO := Lib.hid ((B1.out.trans (hb2.mono hs1)).alloc (by have := hb2.size; omega) (.cells #[.int .i64 r, .int .i64 c, .slice (some ⟨gx, 0, none⟩) n n, .int .i64 0] 28))
  have HBO := Lib.hid hbo
  have HLN := Lib.hid hlen
  clear hpl hrow hb2 hL hcn q0 q1 hb hg hgx hgb hgg hlen hbo hs1
  go_upto_region 4 with fail
  obtain ⟨w3, hw3⟩ : ∃ w3, w3 = w2.alloc (.cells #[.int .i64 r, .int .i64 c, .slice (some ⟨gx, 0, none⟩) n n, .int .i64 0] 28) := ⟨_, rfl⟩
  rw [← hw3] at HP HO ⊢
  clear hw3
  have hfew := few_any (HT.out.below HO.out) HTM.out HTO.out
  obtain ⟨fw, hfw⟩ : ∃ fw, fw = fewL os := ⟨_, rfl⟩
  rw [← hfw] at hfew
  have HFEW := Lib.hid hfew
  have HFW := Lib.hid hfw
  clear hfew hfw
  cases fw with
  | false =>
    go_wp2_with (go_at_call 33; (with_reducible refine HFEW.out.mono ?_); rintro e w4 ⟨rfl, hb4⟩)
    go_ret
    exact ⟨rfl, HO.out.trans (hb4.mono HO.out.size)⟩
  | true =>
  obtain ⟨hl20, hlo⟩ := fewL_len HFW.out.symm
  rw [← HMT.out] at hl20
  obtain ⟨j, hand, hj, _⟩ := Go.Proofs.Ytglkjcdbffkbcaa.Mask.mask_nat f 255 8 256 (by omega) (by decide) (by decide)
  obtain ⟨at1, hat1⟩ : ∃ at1, at1 = (j : Int) % (n : Int) := ⟨_, rfl⟩
  have ha0 : 0 ≤ at1 := by rw [hat1]; exact Int.emod_nonneg _ (by omega)
  have ha1 : at1 < (n : Int) := by rw [hat1]; exact Int.emod_lt_of_pos _ (by omega)
  have hand' : bits .and .i64 f 255 = (j : Int) := hand
  have htm : (bits .and .i64 f 255).tmod (n : Int) = at1 := by rw [hand', Int.tmod_eq_emod_of_nonneg (by omega), hat1]
  have hnz : ¬ (n : Int) = 0 := by omega
  clear hand hand' hj hat1
  have hin : hasL L at1 = true := by unfold hasL; rw [HLN.out]; simp [ha0, ha1]
  obtain ⟨R, hR⟩ : ∃ R, R = runB ⟨L, 0, at1, c0, false⟩ os 0 := ⟨_, rfl⟩
  have hall := (runB_all os ⟨L, 0, at1, c0, false⟩ 0).1
  rw [← hR, Nat.zero_add, ← HMT.out] at hall
  go_wp2_with (first
    | (go_at_call 33; (with_reducible refine HFEW.out.mono ?_); rintro e w4 ⟨rfl, hb4⟩; have H4 := Lib.hid (HP.out.below hb4); have O4 := Lib.hid (HO.out.trans (hb4.mono HO.out.size)); clear hb4)
    | (go_at_call 37; (with_reducible refine (len_any H4.out.pl).mono ?_); rintro e w5 ⟨rfl, rfl⟩; rw [HLN.out]))
  clear htm hnz
  have HX1 := Lib.hid (paint_any (HT.out.inT O4.out (T := fun k => k ≠ b ∧ k ≠ g) (fun k hk => by have h1 := H4.out.lb; have h2 := H4.out.lg; exact ⟨by omega, by omega⟩)) HTO.out (by rw [← HMT.out]; omega) H4.out.pl HBO.out at1)
  rw [paintB_in _ hin, ← hR] at HX1
  clear hR
  obtain ⟨RB, Rn, Re⟩ := R
  have hq1 := HX1.out
  unfold PQ at hq1
  simp only at hq1 hall
  (with_reducible refine hq1.mono ?_)
  rintro e w5 ⟨rfl, hp5, ⟨hbo5, hpa, hpb⟩, ht5⟩
  have H5 := Lib.hid (show P1 w b g r c RB.cur RB.M w5 from ⟨hp5, H4.out.lb, H4.out.lg⟩)
  have O5 := Lib.hid (old_turn O4.out ht5 H4.out.lb H4.out.lg)
  have hlR : RB.M.length = n := by
    have e1 := hp5.size
    have e2 := H4.out.pl.size
    rw [HLN.out] at e2
    omega
  rw [hlR] at hpb
  have HBO5 := Lib.hid hbo5
  have HLR := Lib.hid hlR
  clear HX1 hq1 hp5 ht5 hbo5 hlR H4 O4 HP HO HBO
  have hpa' : ¬ RB.p < 0 := by omega
  have hpb' : ¬ (n : Int) ≤ RB.p := by omega
  have hrn0 : ¬ (Rn : Int) < 0 := by omega
  have hrnm : ¬ (mt : Int) < (Rn : Int) := by omega
  go_wp2_with (first
    | (go_at_call 37; (with_reducible refine (len_any H5.out.pl).mono ?_); rintro e w6 ⟨rfl, rfl⟩; rw [HLR.out])
    | (go_at_call 38; refine (clone_any H5.out.pl).mono ?_; rintro e w6 ⟨b2, g2, rfl, hp6, hb6, lb2, lg2⟩; have HD := Lib.hid (Duo.made H5.out O5.out hp6 hb6 lb2 lg2); clear hp6 hb6 lb2 lg2))
  have hbb := HD.out.q.pl.lt
  have hgg := HD.out.q.pl.ltg
  have hx2 := HD.out.below ((below_alloc w6 (.cells #[.int .u8 y] 5)).trans ((below_alloc (w6.alloc (.cells #[.int .u8 y] 5)) (.cells #[.int .u8 119, .int .i64 0, .int .u8 0, .bool false, .slice none 0 0, .slice none 0 0, .int .u8 0, .int .i64 0, .int .u8 0, .bool false, .slice none 0 0, .slice (some ⟨w6.heap.size, 0, none⟩) 1 1] 73)).mono (by simp)))
  have hy2 := u8_bd hy
  have hpa2 := paint_any (os := [⟨119, 0, 0, false, [], []⟩, ⟨0, 0, 0, false, [], [y]⟩]) (row2o (fun k => k ≠ b2 ∧ k ≠ g2) w6 119 y (by omega) (by omega)) (fun o ho => by
    simp only [List.mem_cons, List.not_mem_nil, or_false] at ho
    rcases ho with rfl | rfl
    · exact or_ok (by unfold Byte; omega) (by unfold I64o; omega) (by unfold Byte; omega) (fun n h => by cases h) (Nat.zero_le _)
    · exact or_ok (by unfold Byte; omega) (by unfold I64o; omega) (by unfold Byte; omega) (fun n h => by rw [List.mem_singleton.1 h]; unfold Byte; omega) (by unfold maxLen; simp)) (by simp) hx2.q.pl HBO5.out RB.p
  rw [paint_unknown _ hpa (by rw [HLR.out]; exact hpb)] at hpa2
  unfold PQ at hpa2
  simp only at hpa2
  (with_reducible refine hpa2.mono ?_)
  rintro e w7 ⟨rfl, hp7, _, ht7⟩
  have HD7 := Lib.hid (hx2.two hp7 ht7)
  clear hpa2 hx2 hp7 ht7 HD hbb hgg
  have hne1 : (RB.p != RB.p) = false := by simp
  go_wp2_with (go_at_call 39; (with_reducible refine (same_any HD7.out.p.pl HD7.out.q.pl).mono ?_); rintro e w8 ⟨he, hb8⟩; rw [sameP_self] at he; subst he; have HD8 := Lib.hid (HD7.out.below hb8); clear hb8)
  have HD9 := Lib.hid (HD8.out.below (below_alloc w8 (.cells #[] 5)))
  have HR9 := Lib.hid (show OwnBytes w8.heap.size (w8.alloc (.cells #[] 5)) (.slice (some ⟨w8.heap.size, 0, none⟩) 0 0) (dvL y 0) from World.ownsRow_lit (base := w8.heap.size) (e := 5) (size := 1) w8 #[] 0 (Nat.le_refl _) (by omega) (by simp))
  have B9 := Lib.hid (below_alloc w8 (.cells #[] 5))
  go_wp2_with (go_at_call 37; (with_reducible refine (len_any HD9.out.p.pl).mono ?_); rintro e w9 ⟨rfl, rfl⟩; rw [HLR.out])
  go_loopw [21, 108] (fun v p wr => ∃ k : Nat, p = .int .i64 k ∧ k ≤ n ∧ OwnBytes w8.heap.size wr v (dvL y k) ∧ Below w8.heap.size w8 wr) (fun _ p _ => n - (intOf p).toNat)
  case atStart => exact ⟨0, rfl, Nat.zero_le _, HR9.out, B9.out⟩
  case round =>
    obtain ⟨k, rfl, hk, hrow, hbel⟩ := hrel
    have HROW := Lib.hid hrow
    have HBEL := Lib.hid hbel
    clear HR9 hrow hbel B9 HD9
    by_cases hk1 : k < n
    · have hki : (k : Int) < (n : Int) := by omega
      have hw1 : IntKind.u8.wrap (k : Int) = (k : Int) := by simp [IntKind.wrap, IntKind.bits]; omega
      have hw2 : IntKind.u8.wrap (y + (k : Int)) = (y + (k : Int)) % 256 := by simp [IntKind.wrap, IntKind.bits, IntKind.signed]
      obtain ⟨z, hz⟩ : ∃ z, z = (y + (k : Int)) % 256 := ⟨_, rfl⟩
      rw [← hz] at hw2
      have HZ := Lib.hid hz
      have HRX := Lib.hid (HROW.out.below (below_alloc wr (.cells #[.int .u8 z] 5)))
      have HBX := Lib.hid (HBEL.out.alloc HBEL.out.size (.cells #[.int .u8 z] 5))
      have HUC : Hid (∀ (n c : Nat), (Value.slice (some ⟨wr.heap.size, 0, none⟩) 1 1) = .slice none n c → c = 0) := Lib.hid (fun _ _ h => by cases h)
      have HL8 := Lib.hid (dvL_length y k)
      clear hz
      obtain ⟨ar, cr, hvr⟩ := HROW.out.slice
      subst hvr
      go_wp2_with (at_builtin; go_loud (refine append_row rfl _ _ rfl HRX.out (row_one8 wr z 5) HUC.out rfl rfl (by rw [HL8.out]; simp; omega) HBX.out.size HBX.out ?_); intro v14 W14 hown hold _ _; have HO14 := Lib.hid hown; have HB14 := Lib.hid hold; clear hown hold)
      exact ⟨⟨k + 1, by go_num, by omega, by rw [dvL_succ, ← HZ.out]; exact HO14.out, HB14.out⟩, by simp [intOf]; omega⟩
    · obtain rfl : n = k := by omega
      have hki : ¬ (n : Int) < (n : Int) := by omega
      have HDA := Lib.hid (HD8.out.below HBEL.out)
      obtain ⟨D, hD⟩ : ∃ D, D = dvL y n := ⟨_, rfl⟩
      have hDl : D.length = n := by rw [hD, dvL_length]
      rw [← hD] at HROW
      have HDD := Lib.hid hD
      have hbb := HD8.out.q.pl.lt
      have hgg := HD8.out.q.pl.ltg
      have hbe := HBEL.out.size
      obtain ⟨ar, cr, hvr⟩ := HROW.out.slice
      rw [hDl] at hvr
      subst hvr
      clear HBEL hD
      go_wp2_with fail
      obtain ⟨M', hpd, hcells⟩ := paint_data (M := RB.M) (cur := RB.cur) (p := RB.p) D hpa (by rw [HLR.out]; exact hpb) (by rw [hDl, HLR.out])
      have hx3 := HDA.out.below (below_alloc wr (.cells #[.int .u8 0, .int .i64 0, .int .u8 0, .bool false, .slice none 0 0, .slice ar n cr] 73))
      have hpa3 := paint_any (os := [⟨0, 0, 0, false, [], D⟩]) (row1o (fun k => k ≠ b2 ∧ k ≠ g2) wr 0 0 0 false D (.slice ar n cr) (HROW.out.rowIn.mono (fun k hk => by omega)) (by omega)) (fun o ho => by
        rw [List.mem_singleton.1 ho]
        exact or_ok (by unfold Byte; omega) (by unfold I64o; omega) (by unfold Byte; omega) (fun x hx => dvL_byte y n x (by rw [← HDD.out]; exact hx)) (by rw [hDl]; unfold maxLen; omega)) (by simp) hx3.q.pl HBO5.out RB.p
      rw [hpd] at hpa3
      unfold PQ at hpa3
      simp only at hpa3
      (with_reducible refine hpa3.mono ?_)
      rintro e w10 ⟨rfl, hp10, _, ht10⟩
      have HDB := Lib.hid (hx3.two hp10 ht10)
      have HCE := Lib.hid hcells
      have HDL := Lib.hid hDl
      clear hpa3 hx3 hp10 ht10 HDA HROW hbb hgg hbe HD8 hpd hcells hDl
      go_wp2_with (go_at_call 37; (with_reducible refine (len_any HDB.out.p.pl).mono ?_); rintro e w11 ⟨rfl, rfl⟩; rw [HLR.out])
      go_loopw [131] (fun p wr => ∃ k : Nat, p = .int .i64 k ∧ k ≤ n ∧ Below w10.heap.size w10 wr) (fun p _ => n - (intOf p).toNat)
      case atStart => exact ⟨0, rfl, Nat.zero_le _, Below.refl _ _⟩
      case round =>
        obtain ⟨k, rfl, hk, hbel⟩ := hrel
        have HX := Lib.hid (HDB.out.below hbel)
        have HBL := Lib.hid hbel
        clear hbel
        by_cases hk1 : k < n
        · have hki : (k : Int) < (n : Int) := by omega
          have hw1 : IntKind.u8.wrap (k : Int) = (k : Int) := by simp [IntKind.wrap, IntKind.bits]; omega
          have hw2 : IntKind.u8.wrap (y + (k : Int)) = (y + (k : Int)) % 256 := by simp [IntKind.wrap, IntKind.bits, IntKind.signed]
          have hcell := HCE.out k (by rw [HDL.out]; exact hk1)
          rw [HDD.out, dvL_get y hk1, HLR.out] at hcell
          obtain ⟨z, hz⟩ : ∃ z, z = (y + (k : Int)) % 256 := ⟨_, rfl⟩
          rw [← hz] at hw2 hcell
          obtain ⟨st, hst⟩ : ∃ st, st = step n RB.p k := ⟨_, rfl⟩
          rw [← hst] at hcell
          have htm : (RB.p + (k : Int)).tmod (n : Int) = st := by rw [hst, Int.tmod_eq_emod_of_nonneg (by omega)]; rfl
          have hnz : ¬ (n : Int) = 0 := by omega
          have hneq : ∀ w : World, (binOp .neq 45 (.agg #[.int .u8 z, .bool false, .bool false, .int .u8 0, .int .u8 0]) (.agg #[.int .u8 z, .bool false, .bool false, .int .u8 0, .int .u8 0])).run Try.prog w = .ok (.bool false) w := fun w => by
            have := run_neq_cl w ⟨z, false, false, 0, 0⟩ ⟨z, false, false, 0, 0⟩
            rw [decide_eq_true rfl] at this
            exact this
          have HCL := Lib.hid hcell
          clear hz hst hcell
          go_wp2_with (first
            | (go_at_call 37; (with_reducible refine (len_any HX.out.p.pl).mono ?_); rintro e w12 ⟨rfl, rfl⟩; rw [HLR.out])
            | (go_at_call 40; (with_reducible refine (at_is HX.out.q.pl HCL.out.symm).mono ?_); rintro e w13 ⟨rfl, hb13⟩; simp only [Cl.val]; have B13 := Lib.hid (HBL.out.trans (hb13.mono HBL.out.size)); clear hb13))
          exact ⟨⟨k + 1, by go_num, by omega, B13.out⟩, by simp [intOf]; omega⟩
        · obtain rfl : n = k := by omega
          have hki : ¬ (n : Int) < (n : Int) := by omega
          have heq1 : (RB.p == RB.p) = true := by simp
          have heq2 : (RB.cur == RB.cur) = true := by simp
          go_wp2_with (first
            | (go_at_call 41; (with_reducible refine (cursor_any HX.out.q.pl).mono ?_); rintro e w12 ⟨rfl, rfl⟩)
            | (go_at_call 41; (with_reducible refine (cursor_any HX.out.p.pl).mono ?_); rintro e w13 ⟨rfl, rfl⟩))
          go_ret
          exact ⟨rfl, HX.out.old⟩
end Go.Proofs.Ytglkjcdbffkbcaa.Pl
