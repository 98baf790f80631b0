/-
  The brush: an order done.
-/
import Derived.Test.YtglkjcdbffkbcaaPaF
namespace Go.Proofs.Ytglkjcdbffkbcaa.Pl
open Go.RowKit Go.Shelf Base
set_option linter.unusedVariables false
set_option linter.unusedSimpArgs false

set_option maxHeartbeats 1000000 in
theorem deed_0 (w : World) : Calls Try.prog 102 #[.int .u8 0] w fun e w' => e = .returned (.func (.func 123) #[] #[]) ∧ w = w' := by
  go_enter Try.func102, Try.ntmps102
  go_wp2
  go_ret
  exact ⟨rfl, rfl⟩
set_option maxHeartbeats 1000000 in
theorem deed_5 (w : World) : Calls Try.prog 102 #[.int .u8 5] w fun e w' => e = .returned (.func (.func 124) #[] #[]) ∧ w = w' := by
  go_enter Try.func102, Try.ntmps102
  go_wp2
  go_ret
  exact ⟨rfl, rfl⟩
set_option maxHeartbeats 1000000 in
theorem deed_8 (w : World) : Calls Try.prog 102 #[.int .u8 8] w fun e w' => e = .returned (.func (.func 125) #[] #[]) ∧ w = w' := by
  go_enter Try.func102, Try.ntmps102
  go_wp2
  go_ret
  exact ⟨rfl, rfl⟩
set_option maxHeartbeats 1000000 in
theorem deed_17 (w : World) : Calls Try.prog 102 #[.int .u8 17] w fun e w' => e = .returned (.func (.func 126) #[] #[]) ∧ w = w' := by
  go_enter Try.func102, Try.ntmps102
  go_wp2
  go_ret
  exact ⟨rfl, rfl⟩
set_option maxHeartbeats 1000000 in
theorem deed_18 (w : World) : Calls Try.prog 102 #[.int .u8 18] w fun e w' => e = .returned (.func (.func 127) #[] #[]) ∧ w = w' := by
  go_enter Try.func102, Try.ntmps102
  go_wp2
  go_ret
  exact ⟨rfl, rfl⟩
set_option maxHeartbeats 1000000 in
theorem deed_19 (w : World) : Calls Try.prog 102 #[.int .u8 19] w fun e w' => e = .returned (.func (.func 128) #[] #[]) ∧ w = w' := by
  go_enter Try.func102, Try.ntmps102
  go_wp2
  go_ret
  exact ⟨rfl, rfl⟩
set_option maxHeartbeats 1000000 in
theorem deed_29 (w : World) : Calls Try.prog 102 #[.int .u8 29] w fun e w' => e = .returned (.func (.func 129) #[] #[]) ∧ w = w' := by
  go_enter Try.func102, Try.ntmps102
  go_wp2
  go_ret
  exact ⟨rfl, rfl⟩
set_option maxHeartbeats 1000000 in
theorem deed_41 (w : World) : Calls Try.prog 102 #[.int .u8 41] w fun e w' => e = .returned (.func (.func 130) #[] #[]) ∧ w = w' := by
  go_enter Try.func102, Try.ntmps102
  go_wp2
  go_ret
  exact ⟨rfl, rfl⟩
set_option maxHeartbeats 1000000 in
theorem deed_40 (w : World) : Calls Try.prog 102 #[.int .u8 40] w fun e w' => e = .returned (.func (.func 131) #[] #[]) ∧ w = w' := by
  go_enter Try.func102, Try.ntmps102
  go_wp2
  go_ret
  exact ⟨rfl, rfl⟩
set_option maxHeartbeats 1000000 in
theorem deed_44 (w : World) : Calls Try.prog 102 #[.int .u8 44] w fun e w' => e = .returned (.func (.func 132) #[] #[]) ∧ w = w' := by
  go_enter Try.func102, Try.ntmps102
  go_wp2
  go_ret
  exact ⟨rfl, rfl⟩
set_option maxHeartbeats 1000000 in
theorem deed_60 (w : World) : Calls Try.prog 102 #[.int .u8 60] w fun e w' => e = .returned (.func (.func 133) #[] #[]) ∧ w = w' := by
  go_enter Try.func102, Try.ntmps102
  go_wp2
  go_ret
  exact ⟨rfl, rfl⟩
set_option maxHeartbeats 1000000 in
theorem deed_none (k : Int) (w : World) (k0 : (k == 0) = false) (k5 : (k == 5) = false) (k8 : (k == 8) = false) (k17 : (k == 17) = false) (k18 : (k == 18) = false) (k19 : (k == 19) = false) (k29 : (k == 29) = false) (k41 : (k == 41) = false) (k40 : (k == 40) = false) (k44 : (k == 44) = false) (k60 : (k == 60) = false) : Calls Try.prog 102 #[.int .u8 k] w fun e w' => e = .returned .nilFunc ∧ w = w' := by
  go_enter Try.func102, Try.ntmps102
  go_wp2
  go_ret
  exact ⟨rfl, rfl⟩
section
variable {W : World} {s b g : Nat} {r c : Int} {B : Bs}
set_option maxRecDepth 100000 in
set_option maxHeartbeats 4000000 in
theorem do_gen (h : BrAt W s b g r c B) (o : Or) (vp vd : Value) (hdl : o.data.length ≤ maxLen) (hvd : ∃ a cap, vd = .slice a o.data.length cap) (f : Nat) (eg : ∀ args w, (callFunc f args).run Try.prog w = .ok (.enter f args) w)
    (hd : ∀ X, Calls Try.prog 102 #[.int .u8 o.kind] X fun e X' => e = .returned (.func (.func f) #[] #[]) ∧ X = X') (R : Bs × Int)
    (hR : ∀ X, BrAt X s b g r c B → Below W.heap.size W X → Calls Try.prog f #[.pointer (some ⟨s, 0, none⟩), .agg (OV o vp vd)] X (OQ X s b g r c R)) :
    Calls Try.prog 73 #[.pointer (some ⟨s, 0, none⟩), .agg (OV o vp vd)] W (OQ W s b g r c ({ R.1 with laid := laidB o }, R.2)) := by
  obtain ⟨kd, ad, yb, yg, ps, ds⟩ := o
  obtain ⟨a, cap, hv⟩ := hvd
  simp only at hdl hv hd
  obtain ⟨n, hn⟩ : ∃ n, n = ds.length := ⟨_, rfl⟩
  rw [← hn] at hv hdl
  subst hv
  have h0 := BoQ.begin h ⟨kd, ad, yb, yg, ps, ds⟩ vp (.slice a n cap)
  have hb0 := below_alloc W (.cells #[.int .u8 kd, .int .i64 ad, .int .u8 yb, .bool yg, vp, .slice a n cap] 73)
  obtain ⟨W0, hW0⟩ : ∃ W0, W0 = W.alloc (.cells #[.int .u8 kd, .int .i64 ad, .int .u8 yb, .bool yg, vp, .slice a n cap] 73) := ⟨_, rfl⟩
  simp only at h0
  rw [← hW0] at h0 hb0
  have hlb : laidB ⟨kd, ad, yb, yg, ps, ds⟩ = (decide (kd = 8) || (decide (kd = 0) && decide (0 < n))) := by unfold laidB; rw [hn]
  obtain ⟨o0, o1, o2, o3, o4, o5⟩ := h0.oc
  simp only at o0 o1 o2 o3
  obtain ⟨lb, hlbb⟩ : ∃ lb, lb = laidB ⟨kd, ad, yb, yg, ps, ds⟩ := ⟨_, rfl⟩
  rw [← hlbb] at hlb ⊢
  have hne : ∀ w : World, (binOp .eql 149 (.func (.func f) #[] #[]) .nilFunc).run Try.prog w = .ok (.bool false) w := fun w => by kernel_rfl
  have H0 := Lib.hid h0
  have HW := Lib.hid hW0.symm
  have HD := Lib.hid hd
  have HN := Lib.hid hn
  have HLB := Lib.hid hlb
  have HR := Lib.hid (hR W0 h0.br hb0)
  clear h h0 hb0 hW0 hn hlb hd hR hlbb
  unfold maxLen at hdl
  have go : ∀ (v8 v0 : Bool), True := fun _ _ => trivial
  clear go
  by_cases k8 : kd = 8
  · subst k8
    go_enter Try.func73, Try.ntmps73
    go_wp2_with fail
    rw [HW.out]
    go_wp2_with (first
      | (go_at_call 102; refine (HD.out _).mono ?_; rintro e w1 ⟨rfl, rfl⟩)
      | (have hrr := HR.out; simp only [OV] at hrr; (with_reducible refine hrr.mono ?_); clear hrr; rintro e w2 ⟨rfl, hbr, ht⟩; have H2 := Lib.hid (H0.out.step hbr ht); obtain ⟨p0, p1, p2, p3, p4, p5⟩ := H2.out.oc; obtain ⟨_, _, _, _, _, _, _, g7, gf⟩ := H2.out.br.cells; clear hbr ht))
    go_ret
    exact ⟨rfl, by have hx : lb = true := (by rw [HLB.out]; rfl); rw [hx]; exact H2.out.br.noted true, H2.out.tn.trans ((turn_set _ s 7 _).mono fun k hk => .inl hk)⟩
  · by_cases k0 : kd = 0
    · subst k0
      by_cases hn0 : 0 < n
      · have hni : (0 : Int) < (n : Int) := by omega
        go_enter Try.func73, Try.ntmps73
        go_wp2_with fail
        rw [HW.out]
        go_wp2_with (first
          | (go_at_call 102; refine (HD.out _).mono ?_; rintro e w1 ⟨rfl, rfl⟩)
          | (have hrr := HR.out; simp only [OV] at hrr; (with_reducible refine hrr.mono ?_); clear hrr; rintro e w2 ⟨rfl, hbr, ht⟩; have H2 := Lib.hid (H0.out.step hbr ht); obtain ⟨p0, p1, p2, p3, p4, p5⟩ := H2.out.oc; obtain ⟨_, _, _, _, _, _, _, g7, gf⟩ := H2.out.br.cells; clear hbr ht))
        go_ret
        exact ⟨rfl, by have hx : lb = true := (by rw [HLB.out]; simp [hn0]); rw [hx]; exact H2.out.br.noted true, H2.out.tn.trans ((turn_set _ s 7 _).mono fun k hk => .inl hk)⟩
      · have hni : ¬ (0 : Int) < (n : Int) := by omega
        go_enter Try.func73, Try.ntmps73
        go_wp2_with fail
        rw [HW.out]
        go_wp2_with (first
          | (go_at_call 102; refine (HD.out _).mono ?_; rintro e w1 ⟨rfl, rfl⟩)
          | (have hrr := HR.out; simp only [OV] at hrr; (with_reducible refine hrr.mono ?_); clear hrr; rintro e w2 ⟨rfl, hbr, ht⟩; have H2 := Lib.hid (H0.out.step hbr ht); obtain ⟨p0, p1, p2, p3, p4, p5⟩ := H2.out.oc; obtain ⟨_, _, _, _, _, _, _, g7, gf⟩ := H2.out.br.cells; clear hbr ht))
        go_ret
        exact ⟨rfl, by have hx : lb = false := (by rw [HLB.out]; simp; omega); rw [hx]; exact H2.out.br.noted false, H2.out.tn.trans ((turn_set _ s 7 _).mono fun k hk => .inl hk)⟩
    · have e8 : (kd == 8) = false := by simpa using k8
      have e0 : (kd == 0) = false := by simpa using k0
      go_enter Try.func73, Try.ntmps73
      go_wp2_with fail
      rw [HW.out]
      go_wp2_with (first
        | (go_at_call 102; refine (HD.out _).mono ?_; rintro e w1 ⟨rfl, rfl⟩)
        | (have hrr := HR.out; simp only [OV] at hrr; (with_reducible refine hrr.mono ?_); clear hrr; rintro e w2 ⟨rfl, hbr, ht⟩; have H2 := Lib.hid (H0.out.step hbr ht); obtain ⟨p0, p1, p2, p3, p4, p5⟩ := H2.out.oc; obtain ⟨_, _, _, _, _, _, _, g7, gf⟩ := H2.out.br.cells; clear hbr ht))
      go_ret
      exact ⟨rfl, by have hx : lb = false := (by rw [HLB.out]; simp [k8, k0]); rw [hx]; exact H2.out.br.noted false, H2.out.tn.trans ((turn_set _ s 7 _).mono fun k hk => .inl hk)⟩
set_option maxRecDepth 100000 in
set_option maxHeartbeats 4000000 in
theorem do_none (h : BrAt W s b g r c B) (o : Or) (vp vd : Value) (hd : ∀ X, Calls Try.prog 102 #[.int .u8 o.kind] X fun e X' => e = .returned .nilFunc ∧ X = X') :
    Calls Try.prog 73 #[.pointer (some ⟨s, 0, none⟩), .agg (OV o vp vd)] W (OQ W s b g r c (B, 31)) := by
  have h0 := BoQ.begin h o vp vd
  obtain ⟨W0, hW0⟩ : ∃ W0, W0 = W.alloc (.cells #[.int .u8 o.kind, .int .i64 o.addr, .int .u8 o.byte, .bool o.ge, vp, vd] 73) := ⟨_, rfl⟩
  rw [← hW0] at h0
  obtain ⟨o0, o1, o2, o3, o4, o5⟩ := h0.oc
  have hne : ∀ w : World, (binOp .eql 149 .nilFunc .nilFunc).run Try.prog w = .ok (.bool true) w := fun w => by kernel_rfl
  have H0 := Lib.hid h0
  have HW := Lib.hid hW0.symm
  have HD := Lib.hid hd
  clear h h0 hW0 hd o1 o2 o3 o4 o5
  go_enter Try.func73, Try.ntmps73
  go_wp2_with fail
  rw [HW.out]
  go_wp2_with (go_at_call 102; refine (HD.out _).mono ?_; rintro e w1 ⟨rfl, rfl⟩)
  go_ret
  exact ⟨rfl, H0.out.br, H0.out.tn⟩
theorem do_any (h : BrAt W s b g r c B) (hbo : BoL B.M) (o : Or) (hk : OrOk o) (vp vd : Value) (hp : PrAt W vp o.pairs) (hd : RowIn (fun k => ¬ BrS s b g k) .u8 W vd o.data) :
    Calls Try.prog 73 #[.pointer (some ⟨s, 0, none⟩), .agg (OV o vp vd)] W (OQ W s b g r c (doB B o)) := by
  have hl : ∃ a cap, vd = .slice a o.data.length cap := by obtain ⟨a, cap, e, _⟩ := hd; exact ⟨a, cap, e⟩
  by_cases k0 : o.kind = 0
  · have he : deedB B o = (B.data o.data, 0) := by unfold deedB; rw [if_pos k0]
    have hkk : knownK o.kind = true := by unfold knownK; rw [k0]; decide
    unfold doB
    rw [if_pos hkk, he]
    exact do_gen h o vp vd hk.ds hl 123 (enters_of Try.func123 (by kernel_rfl) rfl) (fun X => by rw [k0]; exact deed_0 X) _ (fun X hX hb => brData_any hX o vp vd (hd.below hb) hk.ds)
  by_cases k5 : o.kind = 5
  · have he : deedB B o = (B.tab, 0) := by unfold deedB; rw [if_neg k0, if_pos k5]
    have hkk : knownK o.kind = true := by unfold knownK; rw [k5]; decide
    unfold doB
    rw [if_pos hkk, he]
    exact do_gen h o vp vd hk.ds hl 124 (enters_of Try.func124 (by kernel_rfl) rfl) (fun X => by rw [k5]; exact deed_5 X) _ (fun X hX hb => tab_any hX hbo o vp vd)
  by_cases k8 : o.kind = 8
  · have he : deedB B o = (B.lay (B.chr o.byte true), 0) := by unfold deedB; rw [if_neg k0, if_neg k5, if_pos k8]
    have hkk : knownK o.kind = true := by unfold knownK; rw [k8]; decide
    unfold doB
    rw [if_pos hkk, he]
    exact do_gen h o vp vd hk.ds hl 125 (enters_of Try.func125 (by kernel_rfl) rfl) (fun X => by rw [k8]; exact deed_8 X) _ (fun X hX hb => escape_any hX o vp vd)
  by_cases k17 : o.kind = 17
  · have he : deedB B o = (if hasL B.M o.addr then ({ B with p := o.addr }, 0) else (B, 32)) := by unfold deedB; rw [if_neg k0, if_neg k5, if_neg k8, if_pos k17]
    have hkk : knownK o.kind = true := by unfold knownK; rw [k17]; decide
    unfold doB
    rw [if_pos hkk, he]
    exact do_gen h o vp vd hk.ds hl 126 (enters_of Try.func126 (by kernel_rfl) rfl) (fun X => by rw [k17]; exact deed_17 X) _ (fun X hX hb => address_any hX o vp vd)
  by_cases k18 : o.kind = 18
  · have he : deedB B o = (if hasL B.M o.addr then (B.erase o.addr, 0) else (B, 32)) := by unfold deedB; rw [if_neg k0, if_neg k5, if_neg k8, if_neg k17, if_pos k18]
    have hkk : knownK o.kind = true := by unfold knownK; rw [k18]; decide
    unfold doB
    rw [if_pos hkk, he]
    exact do_gen h o vp vd hk.ds hl 127 (enters_of Try.func127 (by kernel_rfl) rfl) (fun X => by rw [k18]; exact deed_18 X) _ (fun X hX hb => erase_any hX hbo o vp vd)
  by_cases k19 : o.kind = 19
  · have he : deedB B o = ({ B with cur := B.p }, 0) := by unfold deedB; rw [if_neg k0, if_neg k5, if_neg k8, if_neg k17, if_neg k18, if_pos k19]
    have hkk : knownK o.kind = true := by unfold knownK; rw [k19]; decide
    unfold doB
    rw [if_pos hkk, he]
    exact do_gen h o vp vd hk.ds hl 128 (enters_of Try.func128 (by kernel_rfl) rfl) (fun X => by rw [k19]; exact deed_19 X) _ (fun X hX hb => cursor_any' hX o vp vd)
  by_cases k29 : o.kind = 29
  · have he : deedB B o = (B.lay ⟨o.byte % 64, false, true, 0, 0⟩, 0) := by unfold deedB; rw [if_neg k0, if_neg k5, if_neg k8, if_neg k17, if_neg k18, if_neg k19, if_pos k29]
    have hkk : knownK o.kind = true := by unfold knownK; rw [k29]; decide
    unfold doB
    rw [if_pos hkk, he]
    exact do_gen h o vp vd hk.ds hl 129 (enters_of Try.func129 (by kernel_rfl) rfl) (fun X => by rw [k29]; exact deed_29 X) _ (fun X hX hb => start_any hX o vp vd hk.by_)
  by_cases k41 : o.kind = 41
  · have he : deedB B o = (B.lay (dressP cS o.pairs), 0) := by unfold deedB; rw [if_neg k0, if_neg k5, if_neg k8, if_neg k17, if_neg k18, if_neg k19, if_neg k29, if_pos k41]
    have hkk : knownK o.kind = true := by unfold knownK; rw [k41]; decide
    unfold doB
    rw [if_pos hkk, he]
    exact do_gen h o vp vd hk.ds hl 130 (enters_of Try.func130 (by kernel_rfl) rfl) (fun X => by rw [k41]; exact deed_41 X) _ (fun X hX hb => extended_any hX o vp vd (hp.below hb) hk.ps hk.pb)
  by_cases k40 : o.kind = 40
  · have he : deedB B o = ({ B with look := dressP B.look o.pairs }, 0) := by unfold deedB; rw [if_neg k0, if_neg k5, if_neg k8, if_neg k17, if_neg k18, if_neg k19, if_neg k29, if_neg k41, if_pos k40]
    have hkk : knownK o.kind = true := by unfold knownK; rw [k40]; decide
    unfold doB
    rw [if_pos hkk, he]
    exact do_gen h o vp vd hk.ds hl 131 (enters_of Try.func131 (by kernel_rfl) rfl) (fun X => by rw [k40]; exact deed_40 X) _ (fun X hX hb => dress_any' hX o vp vd (hp.below hb) hk.ps hk.pb)
  by_cases k44 : o.kind = 44
  · have he : deedB B o = (if (atL B.M B.p).st then (B.lay (dressP (atL B.M B.p) o.pairs), 0) else (B, 31)) := by unfold deedB; rw [if_neg k0, if_neg k5, if_neg k8, if_neg k17, if_neg k18, if_neg k19, if_neg k29, if_neg k41, if_neg k40, if_pos k44]
    have hkk : knownK o.kind = true := by unfold knownK; rw [k44]; decide
    unfold doB
    rw [if_pos hkk, he]
    exact do_gen h o vp vd hk.ds hl 132 (enters_of Try.func132 (by kernel_rfl) rfl) (fun X => by rw [k44]; exact deed_44 X) _ (fun X hX hb => modify_any' hX o vp vd (hp.below hb) hk.ps hk.pb)
  by_cases k60 : o.kind = 60
  · have he : deedB B o = (if hasL B.M o.addr then (B.ra o.addr o.byte o.ge, 0) else (B, 32)) := by unfold deedB; rw [if_neg k0, if_neg k5, if_neg k8, if_neg k17, if_neg k18, if_neg k19, if_neg k29, if_neg k41, if_neg k40, if_neg k44, if_pos k60]
    have hkk : knownK o.kind = true := by unfold knownK; rw [k60]; decide
    unfold doB
    rw [if_pos hkk, he]
    exact do_gen h o vp vd hk.ds hl 133 (enters_of Try.func133 (by kernel_rfl) rfl) (fun X => by rw [k60]; exact deed_60 X) _ (fun X hX hb => repeat_any hX o vp vd)
  have hkk : knownK o.kind = false := by unfold knownK; simp only [decide_eq_false_iff_not]; omega
  unfold doB
  rw [if_neg (by rw [hkk]; decide)]
  exact do_none h o vp vd (fun X => deed_none o.kind X (by simpa using k0) (by simpa using k5) (by simpa using k8) (by simpa using k17) (by simpa using k18) (by simpa using k19) (by simpa using k29) (by simpa using k41) (by simpa using k40) (by simpa using k44) (by simpa using k60))
end
end Go.Proofs.Ytglkjcdbffkbcaa.Pl
