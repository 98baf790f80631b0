/-
  The walk of PaintCuts.
-/
import Derived.Test.YtglkjcdbffkbcaaPaK
import Derived.Test.YtglkjcdbffkbcaaMaskA
namespace Go.Proofs.Ytglkjcdbffkbcaa.Pl
open Go.RowKit Go.Shelf Base
set_option linter.unusedVariables false
set_option linter.unusedSimpArgs false

/-- Three planes beside one another. -/
structure Tri (w : World) (b g b2 g2 b3 g3 : Nat) (r c : Int) (c1 c2 c3 : Int) (L1 L2 L3 : List Cl) (W : World) : Prop where
  p : P1 w b g r c c1 L1 W
  q : P1 w b2 g2 r c c2 L2 W
  r : P1 w b3 g3 r c c3 L3 W
  old : Below w.heap.size w W
  n12 : b ≠ b2 ∧ b ≠ g2 ∧ g ≠ b2 ∧ g ≠ g2
  n13 : b ≠ b3 ∧ b ≠ g3 ∧ g ≠ b3 ∧ g ≠ g3
  n23 : b2 ≠ b3 ∧ b2 ≠ g3 ∧ g2 ≠ b3 ∧ g2 ≠ g3
section
variable {w W W' : World} {b g b2 g2 b3 g3 : Nat} {r c c1 c2 c3 : Int} {L1 L2 L3 : List Cl}
theorem Tri.below (h : Tri w b g b2 g2 b3 g3 r c c1 c2 c3 L1 L2 L3 W) (t : Below W.heap.size W W') : Tri w b g b2 g2 b3 g3 r c c1 c2 c3 L1 L2 L3 W' :=
  ⟨h.p.below t, h.q.below t, h.r.below t, h.old.trans (t.mono h.old.size), h.n12, h.n13, h.n23⟩
theorem Tri.one (h : Tri w b g b2 g2 b3 g3 r c c1 c2 c3 L1 L2 L3 W) {c1' : Int} {L1' : List Cl} (hp : PlAt W' b g r c c1' L1') (t : Turn (Or2 (At b) (At g)) W W') : Tri w b g b2 g2 b3 g3 r c c1' c2 c3 L1' L2 L3 W' := by
  obtain ⟨x1, x2, x3, x4⟩ := h.n12
  obtain ⟨y1, y2, y3, y4⟩ := h.n13
  exact ⟨⟨hp, h.p.lb, h.p.lg⟩, h.q.beside t x1.symm x3.symm x2.symm x4.symm, h.r.beside t y1.symm y3.symm y2.symm y4.symm, old_turn h.old t h.p.lb h.p.lg, h.n12, h.n13, h.n23⟩
theorem Tri.two (h : Tri w b g b2 g2 b3 g3 r c c1 c2 c3 L1 L2 L3 W) {c1' : Int} {L1' : List Cl} (hp : PlAt W' b2 g2 r c c1' L1') (t : Turn (Or2 (At b2) (At g2)) W W') : Tri w b g b2 g2 b3 g3 r c c1 c1' c3 L1 L1' L3 W' := by
  obtain ⟨x1, x2, x3, x4⟩ := h.n12
  obtain ⟨y1, y2, y3, y4⟩ := h.n23
  exact ⟨h.p.beside t x1 x2 x3 x4, ⟨hp, h.q.lb, h.q.lg⟩, h.r.beside t y1.symm y3.symm y2.symm y4.symm, old_turn h.old t h.q.lb h.q.lg, h.n12, h.n13, h.n23⟩
theorem Tri.three (h : Tri w b g b2 g2 b3 g3 r c c1 c2 c3 L1 L2 L3 W) {c1' : Int} {L1' : List Cl} (hp : PlAt W' b3 g3 r c c1' L1') (t : Turn (Or2 (At b3) (At g3)) W W') : Tri w b g b2 g2 b3 g3 r c c1 c2 c1' L1 L2 L1' W' := by
  obtain ⟨x1, x2, x3, x4⟩ := h.n13
  obtain ⟨y1, y2, y3, y4⟩ := h.n23
  exact ⟨h.p.beside t x1 x2 x3 x4, h.q.beside t y1 y2 y3 y4, ⟨hp, h.r.lb, h.r.lg⟩, old_turn h.old t h.r.lb h.r.lg, h.n12, h.n13, h.n23⟩
theorem Tri.made (h : P1 w b g r c c1 L1 W) (ho : Below w.heap.size w W) {W1 W2 : World} (h2 : PlAt W1 b2 g2 r c c2 L2) (t1 : Below W.heap.size W W1) (lb2 : W.heap.size ≤ b2) (lg2 : W.heap.size ≤ g2) (h3 : PlAt W2 b3 g3 r c c3 L3) (t2 : Below W1.heap.size W1 W2) (lb3 : W1.heap.size ≤ b3) (lg3 : W1.heap.size ≤ g3) :
    Tri w b g b2 g2 b3 g3 r c c1 c2 c3 L1 L2 L3 W2 := by
  have e1 := h.pl.lt
  have e2 := h.pl.ltg
  have e3 := h2.lt
  have e4 := h2.ltg
  have e5 := ho.size
  have e6 := t1.size
  exact ⟨(h.below t1).below t2, ⟨h2.below t2, by omega, by omega⟩, ⟨h3, by omega, by omega⟩, (ho.trans (t1.mono e5)).trans (t2.mono (by omega)), ⟨by omega, by omega, by omega, by omega⟩, ⟨by omega, by omega, by omega, by omega⟩, ⟨by omega, by omega, by omega, by omega⟩⟩
end
set_option maxRecDepth 100000 in
set_option maxHeartbeats 8000000 in
theorem paintCuts_law {w : World} (r c : Int) {p1 p2 p4 p5 : Prop} (_ : p1) (_ : p2) (v0 : Value) (L0 : List Cl) (hL : ClsAt w v0 L0 ∧ L0.length ≤ maxLen ∧ ∀ x ∈ L0, x.Ok) (vt : Value) (os : List Or) (hT : OrdsAt w vt os ∧ os.length ≤ maxLen ∧ ∀ o ∈ os, OrOk o) (f : Int) (_ : p4) (kc : Int) (_ : p5) :
    Calls Try.prog 5 #[.agg #[.int .i64 r, .int .i64 c], v0, vt, .int .i64 f, .int .i64 kc] w fun e W => e = .returned (.bool true) ∧ Below w.heap.size w W := by
  obtain ⟨hv, hm, hok⟩ := hL
  obtain ⟨ht, htm, hto⟩ := hT
  obtain ⟨a0, cap0, hv0, _⟩ := id hv
  subst hv0
  obtain ⟨m0, hm0⟩ : ∃ m0, m0 = L0.length := ⟨_, rfl⟩
  have HV := Lib.hid hv
  have HM := Lib.hid hm
  have HOK := Lib.hid hok
  rw [← hm0] at HV hm ⊢
  have HM0 := Lib.hid hm0
  obtain ⟨W0, hW0⟩ : ∃ W0, W0 = w.alloc (.cells #[.int .i64 r, .int .i64 c] 23) := ⟨_, rfl⟩
  have hn0 : W0.heap[w.heap.size]? = some (.cells #[.int .i64 r, .int .i64 c] 23 (0, 0)) := by rw [hW0]; exact heap_alloc_new w _
  have HN0 := Lib.hid hn0
  have B0 := Lib.hid (show Below w.heap.size w W0 by rw [hW0]; exact below_alloc w _)
  have HW0 := Lib.hid hW0.symm
  clear hv hok hm0 hW0 hn0 hm
  obtain ⟨at0, capt, hvt, htc, _, _⟩ := id ht
  subst hvt
  obtain ⟨mt, hmt⟩ : ∃ mt, mt = os.length := ⟨_, rfl⟩
  rw [← hmt] at ht htc ⊢
  have HMT := Lib.hid hmt
  have HT := Lib.hid ht
  have HTC := Lib.hid htc
  have HTO := Lib.hid hto
  have HTM := Lib.hid htm
  clear hmt ht htc hto htm
  go_enter Try.func5, Try.ntmps5
  go_wp2_with fail
  rw [HW0.out]
  go_wp2_with (go_at_call 31; (with_reducible refine (pt_alive W0).mono ?_); rintro e w1 ⟨rfl, hb1⟩
               have n1 := (hb1.block _ (lt_of_block HN0.out)).trans HN0.out
               have q0 : w1.cell? ⟨w.heap.size, 0, none⟩ = some (.int .i64 r) := by simp [World.cell?, n1]
               have q1 : w1.cell? ⟨w.heap.size, 1, none⟩ = some (.int .i64 c) := by simp [World.cell?, n1]
               have B1 := Lib.hid (B0.out.trans (hb1.mono B0.out.size)); clear hb1 n1)
  go_at_call 32
  refine (made_any r c (.slice a0 m0 cap0) L0 w1 (HV.out.below (B1.out.mono (Nat.le_refl _))) HM.out).mono ?_
  rintro e w2 (⟨hno, pv, r', c', a', l', k', rfl, hb2⟩ | ⟨b, g, gx, n, hcn, hn1, hn2, rfl, hpl, hrow, hb, hg, hgx, hgb, hgg, hb2⟩)
  · unfold xV
    go_wp2_with fail
    go_ret
    exact ⟨rfl, B1.out.trans ((hb2.mono B1.out.size).alloc (by have := B1.out.size; have := hb2.size; omega) _)⟩
  unfold xV
  obtain ⟨L, hL⟩ : ∃ L, L = mL n L0 L0.length := ⟨_, rfl⟩
  rw [← hL] at hpl hrow
  have hlen : L.length = n := by rw [hL, mL_length]
  have hbo : BoL L := bo_all (fun x hx => by rw [hL] at hx; exact (mL_ok n HOK.out _ x hx).1)
  have hs1 := B1.out.size
  have HP := Lib.hid (show P1 w b g r c 0 L (w2.alloc (.cells #[.int .i64 r, .int .i64 c, .slice (some ⟨gx, 0, none⟩) n n, .int .i64 0] 28)) from ⟨hpl.alloc _, by omega, by omega⟩)
  have HO := Lib.hid ((B1.out.trans (hb2.mono hs1)).alloc (by have := hb2.size; omega) (.cells #[.int .i64 r, .int .i64 c, .slice (some ⟨gx, 0, none⟩) n n, .int .i64 0] 28))
  have HBO := Lib.hid hbo
  have HLN := Lib.hid hlen
  clear hpl hrow hb2 hL hcn q0 q1 hb hg hgx hgb hgg hlen hbo hs1
  go_upto_region 4 with fail
  obtain ⟨w3, hw3⟩ : ∃ w3, w3 = w2.alloc (.cells #[.int .i64 r, .int .i64 c, .slice (some ⟨gx, 0, none⟩) n n, .int .i64 0] 28) := ⟨_, rfl⟩
  rw [← hw3] at HP HO ⊢
  clear hw3
  have hfew := few_any (HT.out.below HO.out) HTM.out HTO.out
  obtain ⟨fw, hfw⟩ : ∃ fw, fw = fewL os := ⟨_, rfl⟩
  rw [← hfw] at hfew
  have HFEW := Lib.hid hfew
  have HFW := Lib.hid hfw
  clear hfew hfw
  cases fw with
  | false =>
    go_wp2_with (go_at_call 33; (with_reducible refine HFEW.out.mono ?_); rintro e w4 ⟨rfl, hb4⟩)
    go_ret
    exact ⟨rfl, HO.out.trans (hb4.mono HO.out.size)⟩
  | true =>
  obtain ⟨hl20, hlo⟩ := fewL_len HFW.out.symm
  by_cases hf0 : f < 0
  · go_wp2_with (go_at_call 33; (with_reducible refine HFEW.out.mono ?_); rintro e w4 ⟨rfl, hb4⟩)
    go_ret
    exact ⟨rfl, HO.out.trans (hb4.mono HO.out.size)⟩
  have hf0' : 0 ≤ f := by omega
  by_cases hfn : (n : Int) ≤ f
  · go_wp2_with (first
      | (go_at_call 33; (with_reducible refine HFEW.out.mono ?_); rintro e w4 ⟨rfl, hb4⟩; have H4 := Lib.hid (HP.out.below hb4); have O4 := Lib.hid (HO.out.trans (hb4.mono HO.out.size)); clear hb4)
      | (go_at_call 37; (with_reducible refine (len_any H4.out.pl).mono ?_); rintro e w5 ⟨rfl, rfl⟩; rw [HLN.out]))
    go_ret
    exact ⟨rfl, O4.out⟩
  have hfn' : f < (n : Int) := by omega
  rw [← HMT.out] at hl20
  obtain ⟨j, hand, hj, _⟩ := Go.Proofs.Ytglkjcdbffkbcaa.Mask.mask_nat kc 255 8 256 (by omega) (by decide) (by decide)
  obtain ⟨cut, hcut⟩ : ∃ cut, cut = j % (mt + 1) := ⟨_, rfl⟩
  have hcm : cut ≤ mt := by rw [hcut]; have := Nat.mod_lt j (show 0 < mt + 1 by omega); omega
  have hand' : bits .and .i64 kc 255 = (j : Int) := hand
  have htm : (bits .and .i64 kc 255).tmod ((mt : Int) + 1) = (cut : Int) := by rw [hand', Int.tmod_eq_emod_of_nonneg (by omega), hcut, Int.natCast_emod]; rfl
  have hnz : ¬ (mt : Int) + 1 = 0 := by omega
  clear hand hand' hj
  clear hcut
  go_wp2_with (first
    | (go_at_call 33; (with_reducible refine HFEW.out.mono ?_); rintro e w4 ⟨rfl, hb4⟩; have H4 := Lib.hid (HP.out.below hb4); have O4 := Lib.hid (HO.out.trans (hb4.mono HO.out.size)); clear hb4)
    | (go_at_call 37; (with_reducible refine (len_any H4.out.pl).mono ?_); rintro e w5 ⟨rfl, rfl⟩; rw [HLN.out]))
  clear htm hnz
  go_loopw [64] (fun p wr => ∃ k : Nat, p = .int .i64 k ∧ k ≤ mt ∧ Below w4.heap.size w4 wr ∧ ∀ (i : Nat) (o : Or), i < k → os[i]? = some o → ¬ (i < cut ∧ o.kind = 40) ∧ ¬ (cut ≤ i ∧ o.kind = 5)) (fun p _ => mt - (intOf p).toNat)
  case atStart => exact ⟨0, rfl, Nat.zero_le _, Below.refl _ _, fun i o hi => by omega⟩
  case round =>
    obtain ⟨k, rfl, hk, hb, hs⟩ := hrel
    have HB := Lib.hid hb
    have HS := Lib.hid hs
    clear hs
    by_cases hk1 : k < mt
    · have hki : (k : Int) < (mt : Int) := by omega
      obtain ⟨a1, cap1, e1, _, _, hin⟩ := HT.out.below (O4.out.trans (hb.mono O4.out.size))
      injection e1 with e2 e3 e4
      subst e2
      obtain ⟨tb, toff, e5, hin2⟩ := hin (by intro e; rw [e, List.length_nil] at e3; omega)
      subst e5
      obtain ⟨o, ho⟩ : ∃ o, os[k]? = some o := ⟨_, List.getElem?_eq_getElem (by rw [← HMT.out]; exact hk1)⟩
      obtain ⟨vp, vd, ⟨y0, y1, y2, y3, y4, y5⟩, hpr, hdr⟩ := hin2 k o ho
      obtain ⟨ap, cp, hvp, _⟩ := id hpr
      obtain ⟨np, hnp⟩ : ∃ np, np = o.pairs.length := ⟨_, rfl⟩
      rw [← hnp] at hvp
      subst hvp
      obtain ⟨ad, cd, hvd, _⟩ := id hdr
      obtain ⟨nd, hnd⟩ : ∃ nd, nd = o.data.length := ⟨_, rfl⟩
      rw [← hnd] at hvd
      subst hvd
      obtain ⟨kd, hkd⟩ : ∃ kd, kd = o.kind := ⟨_, rfl⟩
      rw [← hkd] at y0
      have HKD := Lib.hid hkd
      have HO5 := Lib.hid ho
      have HAL := Lib.hid (HB.out.alloc HB.out.size (.cells #[.int .u8 kd, .int .i64 o.addr, .int .u8 o.byte, .bool o.ge, .slice (some ⟨tb, toff, none⟩) 0 0, .slice (some ⟨tb, toff, none⟩) 0 0] 73))
      have HBX := Lib.hid (HB.out.alloc HB.out.size (.cells #[.int .u8 kd, .int .i64 o.addr, .int .u8 o.byte, .bool o.ge, .slice ap np cp, .slice ad nd cd] 73))
      clear hb hin hin2 ho hpr hdr hnp hnd e3 e4 hkd HAL
      have next : ¬ (k < cut ∧ kd = 40) → ¬ (cut ≤ k ∧ kd = 5) → ∀ (i : Nat) (o : Or), i < k + 1 → os[i]? = some o → ¬ (i < cut ∧ o.kind = 40) ∧ ¬ (cut ≤ i ∧ o.kind = 5) := by
        intro h1 h2 i o' hi ho'
        by_cases hik : i = k
        · subst hik
          rw [HO5.out] at ho'
          obtain rfl := Option.some.inj ho'
          rw [← HKD.out]
          exact ⟨h1, h2⟩
        · exact HS.out i o' (by omega) ho'
      have NEXT := Lib.hid next
      clear next
      by_cases hkc : k < cut
      · have hkci : (k : Int) < (cut : Int) := by omega
        have hkcj : ¬ (cut : Int) ≤ (k : Int) := by omega
        by_cases h40 : kd = 40
        · subst h40
          go_wp2
          go_ret
          exact ⟨rfl, O4.out.trans (HBX.out.mono O4.out.size)⟩
        · have h40b : (kd == 40) = false := by simpa using h40
          go_wp2
          exact ⟨⟨k + 1, by go_num, by omega, HBX.out, NEXT.out (fun h => h40 h.2) (by omega)⟩, by simp [intOf]; omega⟩
      · have hkci : ¬ (k : Int) < (cut : Int) := by omega
        have hkcj : (cut : Int) ≤ (k : Int) := by omega
        by_cases h5 : kd = 5
        · subst h5
          go_wp2
          go_ret
          exact ⟨rfl, O4.out.trans (HBX.out.mono O4.out.size)⟩
        · have h5b : (kd == 5) = false := by simpa using h5
          go_wp2
          exact ⟨⟨k + 1, by go_num, by omega, HBX.out, NEXT.out (by omega) (fun h => h5 h.2)⟩, by simp [intOf]; omega⟩
    · obtain rfl : mt = k := by omega
      have hki : ¬ (mt : Int) < (mt : Int) := by omega
      have h1 : ∀ o ∈ os.take cut, o.kind ≠ 40 := by
        intro o ho e
        obtain ⟨i, hi⟩ := List.getElem?_of_mem ho
        rw [List.getElem?_take] at hi
        split at hi
        · next hlt => exact (HS.out i o (by omega) hi).1 ⟨hlt, e⟩
        · cases hi
      have h2 : ∀ o ∈ os.drop cut, o.kind ≠ 5 := by
        intro o ho e
        obtain ⟨i, hi⟩ := List.getElem?_of_mem ho
        rw [List.getElem?_drop] at hi
        have := (List.getElem?_eq_some_iff.1 hi).1
        exact (HS.out (cut + i) o (by rw [HMT.out]; exact this) hi).2 ⟨by omega, e⟩
      have hin : hasL L f = true := by unfold hasL; rw [HLN.out]; simp [hf0', hfn']
      have hold : Below w.heap.size w wr := O4.out.trans (HB.out.mono O4.out.size)
      have HPR := Lib.hid (H4.out.below HB.out)
      have HOLD := Lib.hid hold
      obtain ⟨R, hR⟩ : ∃ R, R = runB ⟨L, 0, f, c0, false⟩ os 0 := ⟨_, rfl⟩
      obtain ⟨A, hA⟩ : ∃ A, A = runB ⟨L, 0, f, c0, false⟩ (os.take cut) 0 := ⟨_, rfl⟩
      have hcuts := runB_cut os cut h1 h2 A R hA hR
      have hdone := runB_done os ⟨L, 0, f, c0, false⟩ 0
      have hall := (runB_all os ⟨L, 0, f, c0, false⟩ 0).1
      rw [← hR, Nat.sub_zero] at hdone
      rw [← hR, Nat.zero_add, ← HMT.out] at hall
      obtain ⟨T, hT0⟩ : ∃ T, T = runB ⟨L, 0, f, c0, false⟩ (os.take R.2.1) 0 := ⟨_, rfl⟩
      rw [← hT0] at hdone
      obtain ⟨RB, Rn, Re⟩ := R
      obtain ⟨TB, Tn, Te⟩ := T
      simp only at hdone hall hT0
      obtain ⟨hT1, hT2, hT3⟩ := hdone
      have hRn : Rn ≤ mt := hall
      have hRn20 : Rn ≤ 20 := by omega
      have hcap1 : (cut : Int) ≤ (capt : Int) := by have := HTC.out; omega
      have hcap2 : (Rn : Int) ≤ (capt : Int) := by have := HTC.out; omega
      have hcap3 : (cut : Int) ≤ (mt : Int) := by omega
      have HCM := Lib.hid hcm
      have HRN := Lib.hid hRn
      clear hb h1 h2 hall hold
      go_wp2_with (first
        | (go_at_call 38; refine (clone_any HC1.out.pl).mono ?_; rintro e w6 ⟨b3, g3, rfl, hp6, hb6, lb3, lg3⟩; have HX := Lib.hid (Tri.made HPR.out HOLD.out HC0.out.1 HC0.out.2.1 HC0.out.2.2.1 HC0.out.2.2.2 hp6 hb6 lb3 lg3); clear hp6 hb6 lb3 lg3)
        | (go_at_call 38; refine (clone_any HPR.out.pl).mono ?_; rintro e w5 ⟨b2, g2, rfl, hp5, hb5, lb2, lg2⟩; have HC1 := Lib.hid (HPR.out.below hb5); have HC0 := Lib.hid (And.intro hp5 (And.intro hb5 (And.intro lb2 lg2))); clear hp5 hb5 lb2 lg2))
      have HX1 := Lib.hid (paint_any (HT.out.inT HX.out.old (T := fun k => k ≠ b ∧ k ≠ g) (fun k hk => by have h1 := HX.out.p.lb; have h2 := HX.out.p.lg; exact ⟨by omega, by omega⟩)) HTO.out (by rw [← HMT.out]; omega) HX.out.p.pl HBO.out f)
      rw [paintB_in _ hin, ← hR] at HX1
      have hq1 := HX1.out
      unfold PQ at hq1
      simp only at hq1
      (with_reducible refine hq1.mono ?_)
      rintro e w7 ⟨rfl, hp7, _, ht7⟩
      have HXR := Lib.hid (HX.out.one hp7 ht7)
      clear HX1 hq1 hp7 ht7 HX HC1 HC0 HPR HOLD
      go_wp2_with fail
      have HX2 := Lib.hid (paint_any (((HT.out.inT HXR.out.old (T := fun k => k ≠ b2 ∧ k ≠ g2) (fun k hk => by have h1 := HXR.out.q.lb; have h2 := HXR.out.q.lg; exact ⟨by omega, by omega⟩)).part 0 cut (Nat.zero_le _) HCM.out)) (fun o ho => HTO.out o (List.mem_of_mem_take (List.mem_of_mem_drop ho))) (by rw [List.length_drop, List.length_take]; omega) HXR.out.q.pl HBO.out f)
      rw [slicedO_zero, List.drop_zero, paintB_in _ hin, ← hA] at HX2
      obtain ⟨AB, An, Ae⟩ := A
      have hq2 := HX2.out
      unfold PQ at hq2
      simp only at hq2 hcuts
      (with_reducible refine hq2.mono ?_)
      rintro e w8 ⟨rfl, hp8, ⟨hab, hpa, hpb⟩, ht8⟩
      have HXS := Lib.hid (HXR.out.two hp8 ht8)
      clear HX2 hq2 hp8 ht8 HXR
      by_cases hae : Ae = 0
      · subst hae
        obtain ⟨Z, hZ⟩ : ∃ Z, Z = runB ⟨AB.M, AB.cur, AB.p, c0, false⟩ (os.drop cut) 0 := ⟨_, rfl⟩
        obtain ⟨hz1, hz2, hz3⟩ := hcuts.1 rfl Z hZ
        have hin2 : hasL AB.M AB.p = true := by unfold hasL; simp [hpa, hpb]
        obtain ⟨ZB, Zn, Ze⟩ := Z
        simp only at hz1 hz2 hz3
        have hsum : (An : Int) + (Zn : Int) = (Rn : Int) := by omega
        have han : (An : Int) ≤ 20 := by omega
        have hzn : (Zn : Int) ≤ 20 := by omega
        by_cases hcc : capt = cut
        · have e1 : mt = capt := by have := HTC.out; omega
          have e2 : mt = cut := by omega
          clear hcc
          subst e1
          subst e2
          have HX2 := Lib.hid (paint_any (((HT.out.inT HXS.out.old (T := fun k => k ≠ b2 ∧ k ≠ g2) (fun k hk => by have h1 := HXS.out.q.lb; have h2 := HXS.out.q.lg; exact ⟨by omega, by omega⟩)).part mt mt HCM.out (Nat.le_refl _))) (fun o ho => HTO.out o (List.mem_of_mem_take (List.mem_of_mem_drop ho))) (by rw [List.length_drop, List.length_take]; omega) HXS.out.q.pl hab AB.p)
          rw [show slicedO at0 mt mt mt = .slice at0 0 0 by unfold slicedO sliced; simp, show os.take mt = os by rw [HMT.out, List.take_length], paintB_in _ hin2, ← hZ] at HX2
          have hq2 := HX2.out
          unfold PQ at hq2
          simp only at hq2
          rw [hz1.2.2, hz3] at hq2
          have HQ2 := Lib.hid hq2
          clear HX2 hq2 hcuts
          have hne1 : (RB.p != RB.p) = false := by simp
          have hne2 : (Re != Re) = false := by simp
          go_wp2_with fail
          (with_reducible refine HQ2.out.mono ?_)
          rintro e w9 ⟨rfl, hp9, _, ht9⟩
          rw [hz1.1, hz1.2.1] at hp9
          have HXT := Lib.hid (HXS.out.two hp9 ht9)
          clear hp9 ht9 HQ2 HXS
          go_wp2_with fail
          have HX3 := Lib.hid (paint_any (((HT.out.inT HXT.out.old (T := fun k => k ≠ b3 ∧ k ≠ g3) (fun k hk => by have h1 := HXT.out.r.lb; have h2 := HXT.out.r.lg; exact ⟨by omega, by omega⟩)).part 0 Rn (Nat.zero_le _) HRN.out)) (fun o ho => HTO.out o (List.mem_of_mem_take (List.mem_of_mem_drop ho))) (by rw [List.length_drop, List.length_take]; omega) HXT.out.r.pl HBO.out f)
          rw [slicedO_zero, List.drop_zero, paintB_in _ hin, ← hT0] at HX3
          have hq3 := HX3.out
          unfold PQ at hq3
          simp only at hq3
          rw [hT3] at hq3
          have HQ3 := Lib.hid hq3
          clear HX3 hq3
          go_wp2_with fail
          (with_reducible refine HQ3.out.mono ?_)
          rintro e w12 ⟨rfl, hp9, _, ht9⟩
          rw [hT1.1, hT1.2.1] at hp9
          have HXU := Lib.hid (HXT.out.three hp9 ht9)
          clear hp9 ht9 HQ3
          rw [hT1.2.2, hT2]
          go_wp2_with (first
            | (go_at_call 39; (with_reducible refine (same_any HXV.out.p.pl HXV.out.r.pl).mono ?_); rintro e w11 ⟨he, hb11⟩; rw [sameP_self] at he; subst he; have HXW := Lib.hid (HXV.out.below hb11); clear hb11)
            | (go_at_call 39; (with_reducible refine (same_any HXU.out.p.pl HXU.out.q.pl).mono ?_); rintro e w10 ⟨he, hb10⟩; rw [sameP_self] at he; subst he; have HXV := Lib.hid (HXU.out.below hb10); clear hb10))
          go_ret
          exact ⟨rfl, HXW.out.old⟩
        · have hcmt : True := trivial
          have HX2 := Lib.hid (paint_any (((HT.out.inT HXS.out.old (T := fun k => k ≠ b2 ∧ k ≠ g2) (fun k hk => by have h1 := HXS.out.q.lb; have h2 := HXS.out.q.lg; exact ⟨by omega, by omega⟩)).part cut mt HCM.out (Nat.le_refl _))) (fun o ho => HTO.out o (List.mem_of_mem_take (List.mem_of_mem_drop ho))) (by rw [List.length_drop, List.length_take]; omega) HXS.out.q.pl hab AB.p)
          rw [show slicedO at0 cut mt capt = .slice (at0.map fun x => x.add (cut * 6)) (mt - cut) (capt - cut) by unfold slicedO sliced; rw [if_neg hcc], show os.take mt = os by rw [HMT.out, List.take_length], paintB_in _ hin2, ← hZ] at HX2
          have hq2 := HX2.out
          unfold PQ at hq2
          simp only at hq2
          rw [hz1.2.2, hz3] at hq2
          have HQ2 := Lib.hid hq2
          clear HX2 hq2 hcuts
          have hne1 : (RB.p != RB.p) = false := by simp
          have hne2 : (Re != Re) = false := by simp
          go_wp2_with fail
          (with_reducible refine HQ2.out.mono ?_)
          rintro e w9 ⟨rfl, hp9, _, ht9⟩
          rw [hz1.1, hz1.2.1] at hp9
          have HXT := Lib.hid (HXS.out.two hp9 ht9)
          clear hp9 ht9 HQ2 HXS
          go_wp2_with fail
          have HX3 := Lib.hid (paint_any (((HT.out.inT HXT.out.old (T := fun k => k ≠ b3 ∧ k ≠ g3) (fun k hk => by have h1 := HXT.out.r.lb; have h2 := HXT.out.r.lg; exact ⟨by omega, by omega⟩)).part 0 Rn (Nat.zero_le _) HRN.out)) (fun o ho => HTO.out o (List.mem_of_mem_take (List.mem_of_mem_drop ho))) (by rw [List.length_drop, List.length_take]; omega) HXT.out.r.pl HBO.out f)
          rw [slicedO_zero, List.drop_zero, paintB_in _ hin, ← hT0] at HX3
          have hq3 := HX3.out
          unfold PQ at hq3
          simp only at hq3
          rw [hT3] at hq3
          have HQ3 := Lib.hid hq3
          clear HX3 hq3
          go_wp2_with fail
          (with_reducible refine HQ3.out.mono ?_)
          rintro e w12 ⟨rfl, hp9, _, ht9⟩
          rw [hT1.1, hT1.2.1] at hp9
          have HXU := Lib.hid (HXT.out.three hp9 ht9)
          clear hp9 ht9 HQ3
          rw [hT1.2.2, hT2]
          go_wp2_with (first
            | (go_at_call 39; (with_reducible refine (same_any HXV.out.p.pl HXV.out.r.pl).mono ?_); rintro e w11 ⟨he, hb11⟩; rw [sameP_self] at he; subst he; have HXW := Lib.hid (HXV.out.below hb11); clear hb11)
            | (go_at_call 39; (with_reducible refine (same_any HXU.out.p.pl HXU.out.q.pl).mono ?_); rintro e w10 ⟨he, hb10⟩; rw [sameP_self] at he; subst he; have HXV := Lib.hid (HXU.out.below hb10); clear hb10))
          go_ret
          exact ⟨rfl, HXW.out.old⟩
      · obtain ⟨rfl, rfl, rfl⟩ : AB = RB ∧ An = Rn ∧ Ae = Re := by have := hcuts.2 hae; injection this with e1 e2; injection e2 with e2 e3; exact ⟨e1, e2, e3⟩
        have hne0 : (Ae == 0) = false := by simpa using hae
        have hne1 : (AB.p != AB.p) = false := by simp
        have hne2 : (Ae != Ae) = false := by simp
        have hne3 : ((An : Int) != (An : Int)) = false := by simp
        have HXT := HXS
        clear hcuts HXS
        go_wp2_with fail
        have HX3 := Lib.hid (paint_any (((HT.out.inT HXT.out.old (T := fun k => k ≠ b3 ∧ k ≠ g3) (fun k hk => by have h1 := HXT.out.r.lb; have h2 := HXT.out.r.lg; exact ⟨by omega, by omega⟩)).part 0 An (Nat.zero_le _) HRN.out)) (fun o ho => HTO.out o (List.mem_of_mem_take (List.mem_of_mem_drop ho))) (by rw [List.length_drop, List.length_take]; omega) HXT.out.r.pl HBO.out f)
        rw [slicedO_zero, List.drop_zero, paintB_in _ hin, ← hT0] at HX3
        have hq3 := HX3.out
        unfold PQ at hq3
        simp only at hq3
        rw [hT3] at hq3
        have HQ3 := Lib.hid hq3
        clear HX3 hq3
        go_wp2_with fail
        (with_reducible refine HQ3.out.mono ?_)
        rintro e w12 ⟨rfl, hp9, _, ht9⟩
        rw [hT1.1, hT1.2.1] at hp9
        have HXU := Lib.hid (HXT.out.three hp9 ht9)
        clear hp9 ht9 HQ3
        rw [hT1.2.2, hT2]
        go_wp2_with (first
          | (go_at_call 39; (with_reducible refine (same_any HXV.out.p.pl HXV.out.r.pl).mono ?_); rintro e w11 ⟨he, hb11⟩; rw [sameP_self] at he; subst he; have HXW := Lib.hid (HXV.out.below hb11); clear hb11)
          | (go_at_call 39; (with_reducible refine (same_any HXU.out.p.pl HXU.out.q.pl).mono ?_); rintro e w10 ⟨he, hb10⟩; rw [sameP_self] at he; subst he; have HXV := Lib.hid (HXU.out.below hb10); clear hb10))
        go_ret
        exact ⟨rfl, HXW.out.old⟩
end Go.Proofs.Ytglkjcdbffkbcaa.Pl
