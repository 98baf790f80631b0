/-
  Orders, done.
-/
import Derived.Test.YtglkjcdbffkbcaaPaG
namespace Go.Proofs.Ytglkjcdbffkbcaa.Pl
open Go.RowKit Go.Shelf Base
set_option linter.unusedVariables false
set_option linter.unusedSimpArgs false

theorem dress1_b {x : Attr.Cl} (h : 0 ≤ x.b ∧ x.b ≤ 255) (p : Int × Int) : 0 ≤ (Attr.dress1 x p).b ∧ (Attr.dress1 x p).b ≤ 255 := by
  unfold Attr.dress1
  split
  · exact ⟨Int.emod_nonneg _ (by decide), by have := Int.emod_lt_of_pos p.2 (show (0 : Int) < 64 by decide); show p.2 % 64 ≤ 255; omega⟩
  · split
    · exact h
    · split
      · exact h
      · split
        · exact h
        · exact h
theorem dressP_b {x : Cl} (h : 0 ≤ x.b ∧ x.b ≤ 255) (ps : List (Int × Int)) : 0 ≤ (dressP x ps).b ∧ (dressP x ps).b ≤ 255 := by
  unfold dressP Attr.dress
  suffices h' : ∀ (ps : List (Int × Int)) (y : Attr.Cl), (0 ≤ y.b ∧ y.b ≤ 255) → 0 ≤ (ps.foldl Attr.dress1 y).b ∧ (ps.foldl Attr.dress1 y).b ≤ 255 from h' ps (toA x) h
  intro ps
  induction ps with
  | nil => intro y hy; exact hy
  | cons p ps ih => intro y hy; exact ih _ (dress1_b hy p)
theorem lay_bo {B : Bs} (h : BoL B.M) {x : Cl} (hx : 0 ≤ x.b ∧ x.b ≤ 255) : BoL (B.lay x).M := setL_bo h _ hx
theorem data_bo {d : List Int} (hd : ∀ y ∈ d, Byte y) : ∀ {B : Bs}, BoL B.M → BoL (B.data d).M := by
  induction d with
  | nil => intro B h; exact h
  | cons y d ih => intro B h; exact ih (fun z hz => hd z (List.mem_cons_of_mem _ hz)) (lay_bo h (by have := hd y (by simp); unfold Byte at this; exact ⟨this.1, by show y ≤ 255; omega⟩))
theorem fillL_bo' {M : List Cl} (h : BoL M) (ps : List Int) {x : Cl} (hx : 0 ≤ x.b ∧ x.b ≤ 255) : BoL (fillL M ps x) := by
  induction ps generalizing M with
  | nil => exact h
  | cons p ps ih => exact ih (setL_bo h p hx)
theorem tabWipe_bo : ∀ (ps : List Int) {M : List Cl}, BoL M → BoL (tabWipe M ps)
  | [], M, h => h
  | p :: ps, M, h => by
    unfold tabWipe; split
    · exact h
    · exact tabWipe_bo ps (setL_bo h p (by decide))
theorem tabM_bo {B : Bs} (h : BoL B.M) : BoL (Bs.tabM B) := by
  unfold Bs.tabM; split
  · exact tabWipe_bo _ h
  · exact h
theorem deedB_bo {B : Bs} {o : Or} (h : BoL B.M) (hk : OrOk o) : BoL (deedB B o).1.M := by
  have hy := hk.by_
  unfold Byte at hy
  by_cases k0 : o.kind = 0
  · rw [show deedB B o = (B.data o.data, 0) by unfold deedB; rw [if_pos k0]]
    exact data_bo hk.db h
  by_cases k5 : o.kind = 5
  · rw [show deedB B o = (B.tab, 0) by unfold deedB; rw [if_neg k0, if_pos k5]]
    exact tabM_bo h
  by_cases k8 : o.kind = 8
  · rw [show deedB B o = (B.lay (B.chr o.byte true), 0) by unfold deedB; rw [if_neg k0, if_neg k5, if_pos k8]]
    exact lay_bo h ⟨hy.1, by show o.byte ≤ 255; omega⟩
  by_cases k17 : o.kind = 17
  · rw [show deedB B o = (if hasL B.M o.addr then ({ B with p := o.addr }, 0) else (B, 32)) by unfold deedB; rw [if_neg k0, if_neg k5, if_neg k8, if_pos k17]]
    by_cases hc : hasL B.M o.addr = true
    · rw [if_pos hc]; exact h
    · rw [if_neg hc]; exact h
  by_cases k18 : o.kind = 18
  · rw [show deedB B o = (if hasL B.M o.addr then (B.erase o.addr, 0) else (B, 32)) by unfold deedB; rw [if_neg k0, if_neg k5, if_neg k8, if_neg k17, if_pos k18]]
    by_cases hc : hasL B.M o.addr = true
    · rw [if_pos hc]; exact eraL_bo h _ _
    · rw [if_neg hc]; exact h
  by_cases k19 : o.kind = 19
  · rw [show deedB B o = ({ B with cur := B.p }, 0) by unfold deedB; rw [if_neg k0, if_neg k5, if_neg k8, if_neg k17, if_neg k18, if_pos k19]]
    exact h
  by_cases k29 : o.kind = 29
  · rw [show deedB B o = (B.lay ⟨o.byte % 64, false, true, 0, 0⟩, 0) by unfold deedB; rw [if_neg k0, if_neg k5, if_neg k8, if_neg k17, if_neg k18, if_neg k19, if_pos k29]]
    exact lay_bo h ⟨Int.emod_nonneg _ (by decide), by have := Int.emod_lt_of_pos o.byte (show (0 : Int) < 64 by decide); show o.byte % 64 ≤ 255; omega⟩
  by_cases k41 : o.kind = 41
  · rw [show deedB B o = (B.lay (dressP cS o.pairs), 0) by unfold deedB; rw [if_neg k0, if_neg k5, if_neg k8, if_neg k17, if_neg k18, if_neg k19, if_neg k29, if_pos k41]]
    exact lay_bo h (dressP_b (by decide) _)
  by_cases k40 : o.kind = 40
  · rw [show deedB B o = ({ B with look := dressP B.look o.pairs }, 0) by unfold deedB; rw [if_neg k0, if_neg k5, if_neg k8, if_neg k17, if_neg k18, if_neg k19, if_neg k29, if_neg k41, if_pos k40]]
    exact h
  by_cases k44 : o.kind = 44
  · rw [show deedB B o = (if (atL B.M B.p).st then (B.lay (dressP (atL B.M B.p) o.pairs), 0) else (B, 31)) by unfold deedB; rw [if_neg k0, if_neg k5, if_neg k8, if_neg k17, if_neg k18, if_neg k19, if_neg k29, if_neg k41, if_neg k40, if_pos k44]]
    by_cases hc : (atL B.M B.p).st = true
    · rw [if_pos hc]; exact lay_bo h (dressP_b (h _) _)
    · rw [if_neg hc]; exact h
  by_cases k60 : o.kind = 60
  · rw [show deedB B o = (if hasL B.M o.addr then (B.ra o.addr o.byte o.ge, 0) else (B, 32)) by unfold deedB; rw [if_neg k0, if_neg k5, if_neg k8, if_neg k17, if_neg k18, if_neg k19, if_neg k29, if_neg k41, if_neg k40, if_neg k44, if_pos k60]]
    by_cases hc : hasL B.M o.addr = true
    · rw [if_pos hc]; exact fillL_bo' h _ ⟨hy.1, by show o.byte ≤ 255; omega⟩
    · rw [if_neg hc]; exact h
  rw [show deedB B o = (B, 31) by unfold deedB; rw [if_neg k0, if_neg k5, if_neg k8, if_neg k17, if_neg k18, if_neg k19, if_neg k29, if_neg k41, if_neg k40, if_neg k44, if_neg k60]]
  exact h
theorem doB_bo {B : Bs} {o : Or} (h : BoL B.M) (hk : OrOk o) : BoL (doB B o).1.M := by
  unfold doB; split
  · exact deedB_bo h hk
  · exact h
set_option maxHeartbeats 800000 in
theorem has_raw {W : World} {s b g : Nat} {r c cur : Int} {L : List Cl} (h : PlAt W b g r c cur L) (q0 : W.cell? ⟨s, 0, none⟩ = some (.pointer (some ⟨b, 0, none⟩))) (i : Int) : Calls Try.prog 72 #[.pointer (some ⟨s, 0, none⟩), .int .i64 i] W fun e W' => e = .returned (.bool (hasL L i)) ∧ W = W' := by
  have HL := Lib.hid (len_any h)
  obtain ⟨n, hn⟩ : ∃ n, n = L.length := ⟨_, rfl⟩
  rw [← hn] at HL
  unfold hasL
  rw [← hn]
  clear h hn
  by_cases h0 : 0 ≤ i
  · by_cases h1 : i < n
    · go_enter Try.func72, Try.ntmps72
      go_wp2_with (go_at_call 37; (with_reducible refine HL.out.mono ?_); rintro e w1 ⟨rfl, rfl⟩)
      go_ret
      exact ⟨ret_bool (by simp; omega), rfl⟩
    · go_enter Try.func72, Try.ntmps72
      go_wp2_with (go_at_call 37; (with_reducible refine HL.out.mono ?_); rintro e w1 ⟨rfl, rfl⟩)
      go_ret
      exact ⟨ret_bool (by simp; omega), rfl⟩
  · go_enter Try.func72, Try.ntmps72
    go_wp2
    go_ret
    exact ⟨ret_bool (by simp; omega), rfl⟩
/-- A box of the call's own need not be named. -/
theorem turn_drop {w W : World} {b g : Nat} (h : Turn (BrS w.heap.size b g) w W) : Turn (Or2 (At b) (At g)) w W :=
  ⟨h.os, h.tape, h.output, h.size, fun k hk hS => h.block k hk (by unfold Or2 At at hS; unfold BrS; omega)⟩
/-- What Paint answers, and the brush behind it. -/
def paintB (L : List Cl) (cur : Int) (os : List Or) (from_ : Int) : Bs × Nat × Int := if hasL L from_ then runB ⟨L, cur, from_, c0, false⟩ os 0 else (⟨L, cur, 0, c0, false⟩, 0, 32)
/-- Behind Paint: what is answered, the plane. -/
def PQ (w : World) (b g : Nat) (r c : Int) (R : Bs × Nat × Int) (e : Ending) (W : World) : Prop :=
  e = .returned (.tuple #[.int .i64 R.1.p, .int .i64 R.2.1, .int .i64 R.2.2]) ∧ PlAt W b g r c R.1.cur R.1.M ∧ (BoL R.1.M ∧ 0 ≤ R.1.p ∧ R.1.p < R.1.M.length) ∧ Turn (Or2 (At b) (At g)) w W
set_option maxRecDepth 100000 in
set_option maxHeartbeats 4000000 in
theorem paint_any {w : World} {b g : Nat} {r c cur : Int} {L : List Cl} {v : Value} {os : List Or} (hv : OrdsIn (fun k => k ≠ b ∧ k ≠ g) w v os) (hok : ∀ o ∈ os, OrOk o) (hl : os.length ≤ 1000000)
    (hp : PlAt w b g r c cur L) (hbo : BoL L) (from_ : Int) : Calls Try.prog 34 #[.pointer (some ⟨b, 0, none⟩), v, .int .i64 from_] w (PQ w b g r c (paintB L cur os from_)) := by
  have hblt := hp.lt
  have hglt := hp.ltg
  have hB0 := below_alloc w (.cells #[.pointer (some ⟨b, 0, none⟩), .int .i64 from_, .int .u8 0, .bool false, .bool false, .int .u8 0, .int .u8 0, .bool false] 117)
  have hN0 := heap_alloc_new w (.cells #[.pointer (some ⟨b, 0, none⟩), .int .i64 from_, .int .u8 0, .bool false, .bool false, .int .u8 0, .int .u8 0, .bool false] 117)
  have hP0 := hp.below hB0
  obtain ⟨W0, hW0⟩ : ∃ W0, W0 = w.alloc (.cells #[.pointer (some ⟨b, 0, none⟩), .int .i64 from_, .int .u8 0, .bool false, .bool false, .int .u8 0, .int .u8 0, .bool false] 117) := ⟨_, rfl⟩
  rw [← hW0] at hB0 hN0 hP0
  have q0 : W0.cell? ⟨w.heap.size, 0, none⟩ = some (.pointer (some ⟨b, 0, none⟩)) := by simp [World.cell?, hN0]
  have HH := Lib.hid (has_raw hP0 q0 from_)
  obtain ⟨R, hR⟩ : ∃ R, R = paintB L cur os from_ := ⟨_, rfl⟩
  rw [← hR]
  obtain ⟨a, cap, hva, hlc, _, _⟩ := id hv
  subst hva
  obtain ⟨n, hn⟩ : ∃ n, n = os.length := ⟨_, rfl⟩
  rw [← hn] at hv hl hlc ⊢
  have HV := Lib.hid hv.low
  have HN := Lib.hid hn
  have HW := Lib.hid hW0.symm
  have HB0 := Lib.hid hB0
  have HN0 := Lib.hid hN0
  have HP0 := Lib.hid hP0
  have HOK := Lib.hid hok
  have HBO := Lib.hid hbo
  clear hv hn hW0 hB0 hN0 hP0 q0 hok hp hbo
  cases hc : hasL L from_ with
  | false =>
    have hr : R = (⟨L, cur, 0, c0, false⟩, 0, 32) := by rw [hR]; unfold paintB; rw [if_neg (by rw [hc]; decide)]
    rw [hc] at HH
    subst hr
    clear hR hc
    go_enter Try.func34, Try.ntmps34
    go_wp2_with fail
    rw [HW.out]
    go_wp2_with (go_at_call 72; (with_reducible refine HH.out.mono ?_); rintro e w1 ⟨rfl, rfl⟩)
    exact bodyPost_ret (results_tmp3 rfl _ _ _) rfl ⟨rfl, HP0.out, ⟨HBO.out, Int.le_refl 0, by have := HP0.out.pos; show (0 : Int) < (L.length : Int); omega⟩, Turn.of_below HB0.out⟩
  | true =>
    have hr : R = runB ⟨L, cur, from_, c0, false⟩ os 0 := by rw [hR]; unfold paintB; rw [if_pos hc]
    rw [hc] at HH
    have hr2 := hc
    unfold hasL at hr2
    have hr3 := of_decide_eq_true hr2
    have HS0 := Lib.hid (show BrAt W0 w.heap.size b g r c ⟨L, cur, from_, c0, false⟩ from ⟨HP0.out, HN0.out, hr3.1, hr3.2⟩)
    have HR := Lib.hid hr
    clear hr hR hc hr2 hr3
    go_enter Try.func34, Try.ntmps34
    go_wp2_with fail
    rw [HW.out]
    go_wp2_with (go_at_call 72; (with_reducible refine HH.out.mono ?_); rintro e w1 ⟨rfl, rfl⟩)
    go_loopw [21] (fun p wr => ∃ (k : Nat) (B' : Bs), p = .int .i64 k ∧ k ≤ n ∧ BrAt wr w.heap.size b g r c B' ∧ R = runB B' (os.drop k) k ∧ BoL B'.M ∧ Turn (BrS w.heap.size b g) w wr) (fun p _ => n - (intOf p).toNat)
    case atStart => exact ⟨0, _, rfl, Nat.zero_le _, HS0.out, HR.out, HBO.out, Turn.of_below HB0.out⟩
    case round =>
      obtain ⟨k, B', rfl, hk, hb, hrun, hbm, htn⟩ := hrel
      have HB := Lib.hid hb
      have HRUN := Lib.hid hrun
      have HBM := Lib.hid hbm
      have HTN := Lib.hid htn
      clear HS0 hb hrun hbm htn
      by_cases hk1 : k < n
      · have hki : (k : Int) < (n : Int) := by omega
        obtain ⟨a1, cap1, e1, _, _, hin⟩ := HV.out.turn HTN.out (fun j hj _ => by obtain ⟨⟨h1, h2⟩, h3⟩ := hj; unfold BrS; omega)
        injection e1 with e2 e3 e4
        subst e2
        obtain ⟨tb, toff, e5, _, _, hin2⟩ := hin (by intro e; rw [e, List.length_nil] at e3; omega)
        subst e5
        obtain ⟨o, ho⟩ : ∃ o, os[k]? = some o := ⟨_, List.getElem?_eq_getElem (by rw [← HN.out]; exact hk1)⟩
        obtain ⟨vp, vd, hoc, hpr, hdr⟩ := hin2 k o ho
        obtain ⟨ap, cp, hvp, _⟩ := id hpr
        obtain ⟨np, hnp⟩ : ∃ np, np = o.pairs.length := ⟨_, rfl⟩
        rw [← hnp] at hvp
        subst hvp
        obtain ⟨ad, cd, hvd, _⟩ := id hdr
        obtain ⟨nd, hnd⟩ : ∃ nd, nd = o.data.length := ⟨_, rfl⟩
        rw [← hnd] at hvd
        subst hvd
        obtain ⟨y0, y1, y2, y3, y4, y5⟩ := hoc
        have hpr2 := hpr.at
        have hdr2 : RowIn (fun j => ¬ BrS w.heap.size b g j) .u8 wr (.slice ad nd cd) o.data := hdr.mono (fun j hj => by obtain ⟨⟨h1, h2⟩, h3⟩ := hj; unfold BrS; omega)
        have hoo := HOK.out o (List.mem_of_getElem? ho)
        have hx := below_alloc wr (.cells #[.int .u8 o.kind, .int .i64 o.addr, .int .u8 o.byte, .bool o.ge, .slice ap np cp, .slice ad nd cd] 73)
        have hdo := do_any (HB.out.below hx) HBM.out o hoo _ _ (hpr2.below hx) (hdr2.below hx)
        have hdr : os.drop k = o :: os.drop (k + 1) := by
          obtain ⟨h1, h2⟩ := List.getElem?_eq_some_iff.1 ho
          rw [List.drop_eq_getElem_cons h1, h2]
        have hrn := HRUN.out
        rw [hdr] at hrn
        have hbm2 := doB_bo HBM.out hoo
        unfold runB at hrn
        obtain ⟨D, hD⟩ : ∃ D, D = doB B' o := ⟨_, rfl⟩
        rw [← hD] at hdo hrn hbm2
        obtain ⟨B2, er⟩ := D
        simp only [OV] at hdo hrn hbm2
        have HX := Lib.hid hx
        have HDO := Lib.hid hdo
        have HRN := Lib.hid hrn
        have HBM2 := Lib.hid hbm2
        clear hnp hnd hin hin2 ho hpr hdr hpr2 hdr2 hoo hx hdo hrn hbm2 hD e3 e4
        by_cases her : er = 0
        · subst her
          go_wp2_with (go_at_call 73; (with_reducible refine HDO.out.mono ?_); rintro e w2 ⟨rfl, hbr, ht⟩; have H2 := Lib.hid hbr; have T2 := Lib.hid ht; clear hbr ht)
          exact ⟨⟨k + 1, B2, by go_num, by omega, H2.out, by rw [HRN.out]; simp, HBM2.out, HTN.out.trans ((Turn.of_below HX.out).trans T2.out)⟩, by simp [intOf]; omega⟩
        · have hne : (er != 0) = true := by simpa using her
          have hr : R = (B2, k, er) := by rw [HRN.out, if_neg her]
          subst hr
          clear her
          go_wp2_with (go_at_call 73; (with_reducible refine HDO.out.mono ?_); rintro e w2 ⟨rfl, hbr, ht⟩; have H2 := Lib.hid hbr; have T2 := Lib.hid ht; obtain ⟨_, g1, _⟩ := H2.out.cells; clear hbr ht)
          refine bodyPost_ret (results_tmp3 rfl _ _ _) rfl ⟨rfl, H2.out.pl, ⟨HBM2.out, H2.out.p0, H2.out.p1⟩, ?_⟩
          exact turn_drop (HTN.out.trans ((Turn.of_below HX.out).trans T2.out))
      · obtain rfl : n = k := by omega
        have hki : ¬ (n : Int) < (n : Int) := by omega
        have hr : R = (B', n, 0) := by rw [HRUN.out, HN.out, List.drop_length]; rfl
        subst hr
        obtain ⟨_, g1, _⟩ := HB.out.cells
        go_wp2
        refine bodyPost_ret (results_tmp3 rfl _ _ _) rfl ⟨rfl, HB.out.pl, ⟨HBM.out, HB.out.p0, HB.out.p1⟩, turn_drop HTN.out⟩
end Go.Proofs.Ytglkjcdbffkbcaa.Pl
