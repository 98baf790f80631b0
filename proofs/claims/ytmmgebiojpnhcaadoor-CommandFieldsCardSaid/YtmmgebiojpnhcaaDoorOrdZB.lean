/-
  An order's bytes: the contract of write.
-/
import Derived.Test.YtmmgebiojpnhcaaDoorOrdZ
namespace Go.Proofs.YtmmgebiojpnhcaaDoor.Ord
open Go.RowKit Base
set_option linter.unusedVariables false
set_option linter.unusedSimpArgs false

structure Or.Ok3 (o : Or) : Prop where
  kn : known o.kind = true
  ps : o.pairs.length ≤ 255
  dt : o.data.length ≤ 1000000
  a0 : -9223372036854775808 ≤ o.addr
  a1 : o.addr ≤ 9223372036854775807
  b0 : 0 ≤ o.byte
  b1 : o.byte ≤ 255
def WrK (s : Nat) (w0 : World) (L : List Int) (e : Ending) (w' : World) : Prop := ∃ u, e = .returned u ∧ OwnBytes s w' u L ∧ Below s w0 w'
theorem flatI_drop (ps : List (Int × Int)) (j : Nat) (x : Int × Int) (h : ps[j]? = some x) : flatI (ps.drop j) = [x.1, x.2] ++ flatI (ps.drop (j + 1)) := by
  obtain ⟨hj, e⟩ := List.getElem?_eq_some_iff.1 h
  rw [List.drop_eq_getElem_cons hj, e]
  rfl
def LQ (s ob : Nat) (cs : Array Value) (w0 : World) (T : List Int) (ps : List (Int × Int)) (m j : Nat) (v : Value) (wr : World) : Prop := ∃ Ll : List Int, Ll.length ≤ m + 10 + j * 2 ∧ WQ s ob cs w0 wr v Ll ∧ T = Ll ++ flatI (ps.drop j)
theorem known_cases (k : Int) (h : known k = true) : k = 0 ∨ k = 8 ∨ k = 29 ∨ k = 60 ∨ (k = 5 ∨ k = 19 ∨ k = 40) ∨ (k = 17 ∨ k = 18) ∨ k = 41 ∨ k = 44 := by simp [known] at h; omega
theorem row_two8 (W : World) (x y : Int) (t : TypeId) : RowOf .u8 (W.alloc (.cells #[.int .u8 x, .int .u8 y] t)) (.slice (some ⟨W.heap.size, 0, none⟩) 2 2) [x, y] := by
  refine ⟨_, 2, rfl, fun _ => ⟨_, 0, rfl, fun i hi => ?_⟩⟩
  have hi : i < 2 := by simpa using hi
  rcases (by omega : i = 0 ∨ i = 1) with rfl | rfl <;> simp [go_sem]
set_option maxRecDepth 100000 in
set_option maxHeartbeats 8000000 in
theorem owrite_any {s : Nat} {w0 w : World} {v vp vd : Value} {L : List Int} {o : Or} (n : Int) (hv : OwnBytes s w v L) (h0 : Below s w0 w) (hs : s ≤ w.heap.size) (hp : PrLow s w0 vp o.pairs) (hd : RowIn (fun k => k < s) .u8 w0 vd o.data) (hdn : ∀ n c, vd = .slice none n c → c = 0) (ho : o.Ok3) (hm : L.length ≤ 5000000) :
    Calls Tryd.prog 46 #[v, .agg #[.int .u8 o.kind, .int .i64 o.addr, .int .u8 o.byte, .bool o.ge, vp, vd], .int .i64 n] w (WrK s w0 (L ++ encO o n)) := by
  obtain ⟨hk, hps, hdt, a0, a1, b0, b1⟩ := ho
  obtain ⟨k, a, b, g, ps, D⟩ := o
  simp only at hp hd hk hps hdt a0 a1 b0 b1 ⊢
  obtain ⟨T, hT⟩ : ∃ T, T = L ++ encO ⟨k, a, b, g, ps, D⟩ n := ⟨_, rfl⟩
  rw [← hT]
  unfold encO encT at hT
  simp only at hT
  have hb := below_alloc w (.cells #[.int .u8 k, .int .i64 a, .int .u8 b, .bool g, vp, vd] 92)
  have hnw := heap_alloc_new w (.cells #[.int .u8 k, .int .i64 a, .int .u8 b, .bool g, vp, vd] 92)
  obtain ⟨W1, hW1⟩ : ∃ W1, W1 = w.alloc (.cells #[.int .u8 k, .int .i64 a, .int .u8 b, .bool g, vp, vd] 92) := ⟨_, rfl⟩
  rw [← hW1] at hb hnw
  obtain ⟨ob, hob⟩ : ∃ ob, ob = w.heap.size := ⟨_, rfl⟩
  rw [← hob] at hnw
  have HQ : Hid (WQ s ob #[.int .u8 k, .int .i64 a, .int .u8 b, .bool g, vp, vd] w0 W1 v L) := Lib.hid ⟨hv.below hb, hnw, h0.trans (hb.mono hs), by omega⟩
  have HP := Lib.hid hp
  have HD := Lib.hid hd
  have HDN := Lib.hid hdn
  have HT := Lib.hid hT
  have HW1 := Lib.hid hW1.symm
  have HO := Lib.hid hob.symm
  have HM := Lib.hid hm
  have HPS := Lib.hid hps
  have HDT := Lib.hid hdt
  obtain ⟨pa, pc, rfl⟩ := hp.form
  obtain ⟨da, dc, rfl⟩ : ∃ a c, vd = .slice a D.length c := by obtain ⟨a, c, e, _⟩ := hd; exact ⟨a, c, e⟩
  obtain ⟨va, vc, rfl⟩ := hv.slice
  obtain ⟨m, hm2⟩ : ∃ m, m = L.length := ⟨_, rfl⟩
  obtain ⟨pn, hpn⟩ : ∃ pn, pn = ps.length := ⟨_, rfl⟩
  obtain ⟨dn, hdn2⟩ : ∃ dn, dn = D.length := ⟨_, rfl⟩
  have HM2 := Lib.hid hm2
  have HPN := Lib.hid hpn
  have HDN2 := Lib.hid hdn2
  rw [← hm2] at HQ hm ⊢
  rw [← hpn] at HQ HP HW1 HPS hps ⊢
  rw [← hdn2] at HQ HD HDN HW1 HDT hdt ⊢
  clear hT hb hnw hW1 hob hp hd hdn hv h0 hs hm2 hpn hdn2
  obtain ⟨c0, c1, c2, c3, c4, c5, _⟩ := cells6 HQ.out.box
  rcases known_cases k hk with rfl | hk
  · have HT0 : Hid (T = L ++ D) := Lib.hid HT.out
    have HR := Lib.hid (RowIn.belowS HD.out HQ.out.old)
    clear hk
    go_enter Tryd.func46, Tryd.ntmps46
    go_upto_region 1 with fail
    rw [HW1.out, HO.out]
    go_wp2_with (at_builtin; go_loud (refine append_grow rfl _ _ rfl HQ.out.own HR.out HDN.out rfl rfl (by have := HM2.out; have := HDN2.out; omega) HQ.out.size ?_); intro v' w5 hown hg; have HQ5 := Lib.hid (HQ.out.grown hown hg); clear hown hg)
    go_ret
    exact ⟨_, rfl, by rw [HT0.out]; exact HQ5.out.own, HQ5.out.old⟩
  have hk0 : (k == 0) = false := by simp; omega
  have hk00 : k ≠ 0 := by simpa using hk0
  go_enter Tryd.func46, Tryd.ntmps46
  go_upto_region 3 with fail
  rw [HW1.out, HO.out]
  go_upto_region 4 with (at_builtin; go_loud (refine append_grow rfl _ _ rfl (HQ.out.alloc _).own (row_one8 _ _ _) (fun _ _ h => by cases h) rfl rfl (by have := HM.out; have := HM2.out; simp; omega) (HQ.out.alloc _).size ?_); intro v3 W3 hown hg; have HQ3 := Lib.hid ((HQ.out.alloc _).grown hown hg); obtain ⟨c0, c1, c2, c3, c4, c5, _⟩ := cells6 HQ3.out.box; clear hown hg)
  have HA := Lib.hid (hasAddr_any k)
  rcases hk with rfl | rfl | rfl | hk | hk | rfl | rfl
  · -- GE
    have HTT : Hid (T = L ++ [8] ++ [b]) := Lib.hid (by rw [HT.out]; simp [hasA])
    rw [show hasA 8 = false from rfl] at HA
    go_wp2_with fail
    refine (HA.out _).mono ?_
    rintro e w' ⟨rfl, rfl⟩
    go_wp2_with (at_builtin; go_loud (refine append_grow rfl _ _ rfl (HQ3.out.alloc _).own (row_one8 _ _ _) (fun _ _ h => by cases h) rfl rfl (by have := HM.out; have := HM2.out; simp; omega) (HQ3.out.alloc _).size ?_); intro v4 W4 hown hg; have HQ4 := Lib.hid ((HQ3.out.alloc _).grown hown hg); obtain ⟨c0, c1, c2, c3, c4, c5, _⟩ := cells6 HQ4.out.box; clear hown hg)
    go_ret
    exact ⟨_, rfl, by rw [HTT.out]; exact HQ4.out.own, HQ4.out.old⟩
  · -- SF
    have HTT : Hid (T = L ++ [29] ++ [Dig.dig (b % 64)]) := Lib.hid (by rw [HT.out]; simp [hasA])
    have HBY := Lib.hid fun w => Attr.byte_any b w b0 b1
    rw [show hasA 29 = false from rfl] at HA
    go_wp2_with fail
    refine (HA.out _).mono ?_
    rintro e w' ⟨rfl, rfl⟩
    go_wp2_with fail
    refine (HBY.out _).mono ?_
    rintro e w' ⟨rfl, rfl⟩
    go_wp2_with (at_builtin; go_loud (refine append_grow rfl _ _ rfl (HQ3.out.alloc _).own (row_one8 _ _ _) (fun _ _ h => by cases h) rfl rfl (by have := HM.out; have := HM2.out; simp; omega) (HQ3.out.alloc _).size ?_); intro v4 W4 hown hg; have HQ4 := Lib.hid ((HQ3.out.alloc _).grown hown hg); obtain ⟨c0, c1, c2, c3, c4, c5, _⟩ := cells6 HQ4.out.box; clear hown hg)
    go_ret
    exact ⟨_, rfl, by rw [HTT.out]; exact HQ4.out.own, HQ4.out.old⟩
  · -- RA
    have HTT : Hid (T = L ++ [60] ++ [Dig.encA a n, Dig.encB a n] ++ (if g = true then [8] else []) ++ [b]) := Lib.hid (by rw [HT.out]; simp [hasA])
    rw [show hasA 60 = true from rfl] at HA
    go_wp2_with fail
    refine (HA.out _).mono ?_
    rintro e w' ⟨rfl, rfl⟩
    go_wp2_with fail
    refine (Dig.encode_any a n W3 a0 a1).mono ?_
    rintro e w4 ⟨rfl, b4⟩
    have HQ4 := Lib.hid ((HQ3.out.below b4).alloc (.cells #[.int .u8 (Dig.encA a n), .int .u8 (Dig.encB a n)] 121))
    obtain ⟨X, hX⟩ : ∃ X, X = Dig.encA a n := ⟨_, rfl⟩
    obtain ⟨Y, hY⟩ : ∃ Y, Y = Dig.encB a n := ⟨_, rfl⟩
    rw [← hX, ← hY] at HQ4 HTT ⊢
    have HR4 : Hid (RowOf .u8 (w4.alloc (.cells #[.int .u8 X, .int .u8 Y] 121)) (.slice (some ⟨w4.heap.size, 0, none⟩) 2 2) [X, Y]) := Lib.hid (row_two8 _ _ _ _)
    clear b4 hX hY
    go_upto_region 7 with (at_builtin; go_loud (refine append_grow rfl _ _ rfl (HQ4.out).own (HR4.out) (fun _ _ h => by cases h) rfl rfl (by have := HM.out; have := HM2.out; simp; omega) (HQ4.out).size ?_); intro v5 W5 hown hg; have HQ5 := Lib.hid ((HQ4.out).grown hown hg); obtain ⟨c0, c1, c2, c3, c4, c5, _⟩ := cells6 HQ5.out.box; clear hown hg)
    cases g
    · go_wp2_with (at_builtin; go_loud (refine append_grow rfl _ _ rfl (HQ5.out.alloc _).own (row_one8 _ _ _) (fun _ _ h => by cases h) rfl rfl (by have := HM.out; have := HM2.out; simp; omega) (HQ5.out.alloc _).size ?_); intro v6 W6 hown hg; have HQ6 := Lib.hid ((HQ5.out.alloc _).grown hown hg); obtain ⟨c0, c1, c2, c3, c4, c5, _⟩ := cells6 HQ6.out.box; clear hown hg)
      go_ret
      exact ⟨_, rfl, by rw [HTT.out]; simpa using HQ6.out.own, HQ6.out.old⟩
    · go_upto_region 15 with (at_builtin; go_loud (refine append_grow rfl _ _ rfl (HQ5.out.alloc _).own (row_one8 _ _ _) (fun _ _ h => by cases h) rfl rfl (by have := HM.out; have := HM2.out; simp; omega) (HQ5.out.alloc _).size ?_); intro v6 W6 hown hg; have HQ6 := Lib.hid ((HQ5.out.alloc _).grown hown hg); obtain ⟨c0, c1, c2, c3, c4, c5, _⟩ := cells6 HQ6.out.box; clear hown hg)
      go_wp2_with (at_builtin; go_loud (refine append_grow rfl _ _ rfl (HQ6.out.alloc _).own (row_one8 _ _ _) (fun _ _ h => by cases h) rfl rfl (by have := HM.out; have := HM2.out; simp; omega) (HQ6.out.alloc _).size ?_); intro v7 W7 hown hg; have HQ7 := Lib.hid ((HQ6.out.alloc _).grown hown hg); obtain ⟨c0, c1, c2, c3, c4, c5, _⟩ := cells6 HQ7.out.box; clear hown hg)
      go_ret
      exact ⟨_, rfl, by rw [HTT.out]; simpa using HQ7.out.own, HQ7.out.old⟩
  rotate_left
  · -- SBA, EUA
    have t1 : (k == 29) = false := by simp; omega
    have t2 : (k == 8) = false := by simp; omega
    have t3 : (k == 60) = false := by simp; omega
    have t4 : (k == 41) = false := by simp; omega
    have t5 : (k == 44) = false := by simp; omega
    have hA : hasA k = true := by simp [hasA]; omega
    have HTT : Hid (T = L ++ [k] ++ [Dig.encA a n, Dig.encB a n] ++ flatI ps) := Lib.hid (by rw [HT.out, if_neg (by omega), if_pos hA, if_neg (by omega), if_neg (by omega), if_neg (by omega), if_neg (by omega)]; simp)
    rw [hA] at HA
    clear hA hk
    go_wp2_with fail
    refine (HA.out _).mono ?_
    rintro e w' ⟨rfl, rfl⟩
    go_wp2_with fail
    refine (Dig.encode_any a n W3 a0 a1).mono ?_
    rintro e w4 ⟨rfl, b4⟩
    have HQ4 := Lib.hid ((HQ3.out.below b4).alloc (.cells #[.int .u8 (Dig.encA a n), .int .u8 (Dig.encB a n)] 121))
    obtain ⟨X, hX⟩ : ∃ X, X = Dig.encA a n := ⟨_, rfl⟩
    obtain ⟨Y, hY⟩ : ∃ Y, Y = Dig.encB a n := ⟨_, rfl⟩
    rw [← hX, ← hY] at HQ4 HTT ⊢
    have HR4 : Hid (RowOf .u8 (w4.alloc (.cells #[.int .u8 X, .int .u8 Y] 121)) (.slice (some ⟨w4.heap.size, 0, none⟩) 2 2) [X, Y]) := Lib.hid (row_two8 _ _ _ _)
    clear b4 hX hY
    go_upto_region 7 with (at_builtin; go_loud (refine append_grow rfl _ _ rfl (HQ4.out).own (HR4.out) (fun _ _ h => by cases h) rfl rfl (by have := HM.out; have := HM2.out; simp; omega) (HQ4.out).size ?_); intro v5 W5 hown hg; have HQ5 := Lib.hid ((HQ4.out).grown hown hg); obtain ⟨c0, c1, c2, c3, c4, c5, _⟩ := cells6 HQ5.out.box; clear hown hg)
    have HLL : Hid (LQ s ob #[.int .u8 k, .int .i64 a, .int .u8 b, .bool g, .slice pa pn pc, .slice da dn dc] w0 T ps m 0 v5 W5) := Lib.hid ⟨_, by have := HM2.out; simp; omega, HQ5.out, HTT.out⟩
    go_upto_region 20 with fail
    clear c0 c1 c2 c3 c4 c5 HTT
    go_loopw [0, 78] (fun v i wr => ∃ j : Nat, j ≤ pn ∧ i = .int .i64 j ∧ LQ s ob #[.int .u8 k, .int .i64 a, .int .u8 b, .bool g, .slice pa pn pc, .slice da dn dc] w0 T ps m j v wr) (fun _ i _ => pn - (intOf i).toNat)
    case atStart => exact ⟨0, by omega, rfl, HLL.out⟩
    case round =>
      obtain ⟨j, hj, rfl, Ll, hll, hq, hTe⟩ := hrel
      by_cases hjn : j < pn
      · have hjni : (j : Int) < (pn : Int) := by omega
        have hj0 : (0 : Int) ≤ (j : Int) := Int.natCast_nonneg _
        obtain ⟨x, hxx⟩ : ∃ x, ps[j]? = some x := ⟨_, List.getElem?_eq_getElem (by rw [← HPN.out]; exact hjn)⟩
        obtain ⟨_, _, e, hc⟩ := HP.out.belowS hq.old
        injection e with e1 e2 e3
        clear e2
        subst e1 e3
        obtain ⟨gg, off, rfl, _, hcc⟩ := hc (by intro e; rw [e] at hxx; simp at hxx)
        obtain ⟨d0, d1⟩ := hcc j x hxx
        have hdr : flatI (ps.drop j) = [x.1, x.2] ++ flatI (ps.drop (j + 1)) := flatI_drop ps j x hxx
        obtain ⟨x1, x2⟩ := x
        simp only at d0 d1 hdr
        have HQL := Lib.hid (hq.alloc (.cells #[.int .u8 x1, .int .u8 x2] 117))
        have hr9 := row_two8 (wr.alloc (.cells #[.int .u8 x1, .int .u8 x2] 117)) x1 x2 5
        rw [World.size_alloc] at hr9
        have HR9 := Lib.hid hr9
        have HTE := Lib.hid hTe
        have HDR := Lib.hid hdr
        have HLN := Lib.hid hll
        clear hxx hc hcc hTe hdr hll hq hr9
        go_upto_region 22 with fail
        go_wp2_with (at_builtin; go_loud (refine append_grow rfl _ _ rfl (HQL.out.alloc _).own HR9.out (fun _ _ h => by cases h) rfl rfl (by have := HM.out; have := HM2.out; have := HLN.out; simp; omega) (HQL.out.alloc _).size ?_); intro v9 W9 hown hg; have HQ9 := Lib.hid ((HQL.out.alloc _).grown hown hg); clear hown hg)
        go_roundw
        case rel => exact ⟨j + 1, by omega, by go_num, _, by have := HLN.out; simp; omega, HQ9.out, by rw [HTE.out, HDR.out]; simp⟩
        case measure => simp [intOf]; omega
      · obtain rfl : pn = j := by omega
        have HTE : Hid (T = Ll) := Lib.hid (by rw [hTe, List.drop_of_length_le (by rw [← HPN.out]; exact Nat.le_refl _)]; simp [flatI])
        have HQL := Lib.hid hq
        clear hTe hq hll
        go_wp2_with fail
        go_ret
        exact ⟨_, rfl, by rw [HTE.out]; exact HQL.out.own, HQL.out.old⟩
  rotate_right
  · -- PT, IC, SA
    have t1 : (k == 29) = false := by simp; omega
    have t2 : (k == 8) = false := by simp; omega
    have t3 : (k == 60) = false := by simp; omega
    have t4 : (k == 41) = false := by simp; omega
    have t5 : (k == 44) = false := by simp; omega
    have hA : hasA k = false := by simp [hasA]; omega
    have HTT : Hid (T = L ++ [k] ++ flatI ps) := Lib.hid (by rw [HT.out, if_neg (by omega), if_neg (by rw [hA]; simp), if_neg (by omega), if_neg (by omega), if_neg (by omega), if_neg (by omega)]; simp)
    rw [hA] at HA
    clear hA hk
    go_wp2_with fail
    refine (HA.out _).mono ?_
    rintro e w' ⟨rfl, rfl⟩
    have HLL : Hid (LQ s ob #[.int .u8 k, .int .i64 a, .int .u8 b, .bool g, .slice pa pn pc, .slice da dn dc] w0 T ps m 0 v3 W3) := Lib.hid ⟨_, by have := HM2.out; simp; omega, HQ3.out, HTT.out⟩
    go_upto_region 20 with fail
    clear c0 c1 c2 c3 c4 c5 HTT
    go_loopw [0, 78] (fun v i wr => ∃ j : Nat, j ≤ pn ∧ i = .int .i64 j ∧ LQ s ob #[.int .u8 k, .int .i64 a, .int .u8 b, .bool g, .slice pa pn pc, .slice da dn dc] w0 T ps m j v wr) (fun _ i _ => pn - (intOf i).toNat)
    case atStart => exact ⟨0, by omega, rfl, HLL.out⟩
    case round =>
      obtain ⟨j, hj, rfl, Ll, hll, hq, hTe⟩ := hrel
      by_cases hjn : j < pn
      · have hjni : (j : Int) < (pn : Int) := by omega
        have hj0 : (0 : Int) ≤ (j : Int) := Int.natCast_nonneg _
        obtain ⟨x, hxx⟩ : ∃ x, ps[j]? = some x := ⟨_, List.getElem?_eq_getElem (by rw [← HPN.out]; exact hjn)⟩
        obtain ⟨_, _, e, hc⟩ := HP.out.belowS hq.old
        injection e with e1 e2 e3
        clear e2
        subst e1 e3
        obtain ⟨gg, off, rfl, _, hcc⟩ := hc (by intro e; rw [e] at hxx; simp at hxx)
        obtain ⟨d0, d1⟩ := hcc j x hxx
        have hdr : flatI (ps.drop j) = [x.1, x.2] ++ flatI (ps.drop (j + 1)) := flatI_drop ps j x hxx
        obtain ⟨x1, x2⟩ := x
        simp only at d0 d1 hdr
        have HQL := Lib.hid (hq.alloc (.cells #[.int .u8 x1, .int .u8 x2] 117))
        have hr9 := row_two8 (wr.alloc (.cells #[.int .u8 x1, .int .u8 x2] 117)) x1 x2 5
        rw [World.size_alloc] at hr9
        have HR9 := Lib.hid hr9
        have HTE := Lib.hid hTe
        have HDR := Lib.hid hdr
        have HLN := Lib.hid hll
        clear hxx hc hcc hTe hdr hll hq hr9
        go_upto_region 22 with fail
        go_wp2_with (at_builtin; go_loud (refine append_grow rfl _ _ rfl (HQL.out.alloc _).own HR9.out (fun _ _ h => by cases h) rfl rfl (by have := HM.out; have := HM2.out; have := HLN.out; simp; omega) (HQL.out.alloc _).size ?_); intro v9 W9 hown hg; have HQ9 := Lib.hid ((HQL.out.alloc _).grown hown hg); clear hown hg)
        go_roundw
        case rel => exact ⟨j + 1, by omega, by go_num, _, by have := HLN.out; simp; omega, HQ9.out, by rw [HTE.out, HDR.out]; simp⟩
        case measure => simp [intOf]; omega
      · obtain rfl : pn = j := by omega
        have HTE : Hid (T = Ll) := Lib.hid (by rw [hTe, List.drop_of_length_le (by rw [← HPN.out]; exact Nat.le_refl _)]; simp [flatI])
        have HQL := Lib.hid hq
        clear hTe hq hll
        go_wp2_with fail
        go_ret
        exact ⟨_, rfl, by rw [HTE.out]; exact HQL.out.own, HQL.out.old⟩
  · -- SFE, MF
    have HTT : Hid (T = L ++ [41] ++ [(pn : Int)] ++ flatI ps) := Lib.hid (by rw [HT.out]; simp [hasA]; have := HPN.out; omega)
    have hwr : IntKind.u8.wrap (pn : Int) = pn := IntWalk.u8_in _ (by omega)
    rw [show hasA 41 = false from rfl] at HA
    go_wp2_with fail
    refine (HA.out _).mono ?_
    rintro e w' ⟨rfl, rfl⟩
    go_upto_region 19 with (at_builtin; go_loud (refine append_grow rfl _ _ rfl (HQ3.out.alloc _).own (row_one8 _ _ _) (fun _ _ h => by cases h) rfl rfl (by have := HM.out; have := HM2.out; simp; omega) (HQ3.out.alloc _).size ?_); intro v5 W5 hown hg; have HQ5 := Lib.hid ((HQ3.out.alloc _).grown hown hg); obtain ⟨c0, c1, c2, c3, c4, c5, _⟩ := cells6 HQ5.out.box; clear hown hg)
    have HLL : Hid (LQ s ob #[.int .u8 41, .int .i64 a, .int .u8 b, .bool g, .slice pa pn pc, .slice da dn dc] w0 T ps m 0 v5 W5) := Lib.hid ⟨_, by have := HM2.out; simp; omega, HQ5.out, HTT.out⟩
    go_upto_region 20 with fail
    clear c0 c1 c2 c3 c4 c5 HTT
    go_loopw [0, 78] (fun v i wr => ∃ j : Nat, j ≤ pn ∧ i = .int .i64 j ∧ LQ s ob #[.int .u8 41, .int .i64 a, .int .u8 b, .bool g, .slice pa pn pc, .slice da dn dc] w0 T ps m j v wr) (fun _ i _ => pn - (intOf i).toNat)
    case atStart => exact ⟨0, by omega, rfl, HLL.out⟩
    case round =>
      obtain ⟨j, hj, rfl, Ll, hll, hq, hTe⟩ := hrel
      by_cases hjn : j < pn
      · have hjni : (j : Int) < (pn : Int) := by omega
        have hj0 : (0 : Int) ≤ (j : Int) := Int.natCast_nonneg _
        obtain ⟨x, hxx⟩ : ∃ x, ps[j]? = some x := ⟨_, List.getElem?_eq_getElem (by rw [← HPN.out]; exact hjn)⟩
        obtain ⟨_, _, e, hc⟩ := HP.out.belowS hq.old
        injection e with e1 e2 e3
        clear e2
        subst e1 e3
        obtain ⟨gg, off, rfl, _, hcc⟩ := hc (by intro e; rw [e] at hxx; simp at hxx)
        obtain ⟨d0, d1⟩ := hcc j x hxx
        have hdr : flatI (ps.drop j) = [x.1, x.2] ++ flatI (ps.drop (j + 1)) := flatI_drop ps j x hxx
        obtain ⟨x1, x2⟩ := x
        simp only at d0 d1 hdr
        have HQL := Lib.hid (hq.alloc (.cells #[.int .u8 x1, .int .u8 x2] 117))
        have hr9 := row_two8 (wr.alloc (.cells #[.int .u8 x1, .int .u8 x2] 117)) x1 x2 5
        rw [World.size_alloc] at hr9
        have HR9 := Lib.hid hr9
        have HTE := Lib.hid hTe
        have HDR := Lib.hid hdr
        have HLN := Lib.hid hll
        clear hxx hc hcc hTe hdr hll hq hr9
        go_upto_region 22 with fail
        go_wp2_with (at_builtin; go_loud (refine append_grow rfl _ _ rfl (HQL.out.alloc _).own HR9.out (fun _ _ h => by cases h) rfl rfl (by have := HM.out; have := HM2.out; have := HLN.out; simp; omega) (HQL.out.alloc _).size ?_); intro v9 W9 hown hg; have HQ9 := Lib.hid ((HQL.out.alloc _).grown hown hg); clear hown hg)
        go_roundw
        case rel => exact ⟨j + 1, by omega, by go_num, _, by have := HLN.out; simp; omega, HQ9.out, by rw [HTE.out, HDR.out]; simp⟩
        case measure => simp [intOf]; omega
      · obtain rfl : pn = j := by omega
        have HTE : Hid (T = Ll) := Lib.hid (by rw [hTe, List.drop_of_length_le (by rw [← HPN.out]; exact Nat.le_refl _)]; simp [flatI])
        have HQL := Lib.hid hq
        clear hTe hq hll
        go_wp2_with fail
        go_ret
        exact ⟨_, rfl, by rw [HTE.out]; exact HQL.out.own, HQL.out.old⟩
  · -- SFE, MF
    have HTT : Hid (T = L ++ [44] ++ [(pn : Int)] ++ flatI ps) := Lib.hid (by rw [HT.out]; simp [hasA]; have := HPN.out; omega)
    have hwr : IntKind.u8.wrap (pn : Int) = pn := IntWalk.u8_in _ (by omega)
    rw [show hasA 44 = false from rfl] at HA
    go_wp2_with fail
    refine (HA.out _).mono ?_
    rintro e w' ⟨rfl, rfl⟩
    go_upto_region 19 with (at_builtin; go_loud (refine append_grow rfl _ _ rfl (HQ3.out.alloc _).own (row_one8 _ _ _) (fun _ _ h => by cases h) rfl rfl (by have := HM.out; have := HM2.out; simp; omega) (HQ3.out.alloc _).size ?_); intro v5 W5 hown hg; have HQ5 := Lib.hid ((HQ3.out.alloc _).grown hown hg); obtain ⟨c0, c1, c2, c3, c4, c5, _⟩ := cells6 HQ5.out.box; clear hown hg)
    have HLL : Hid (LQ s ob #[.int .u8 44, .int .i64 a, .int .u8 b, .bool g, .slice pa pn pc, .slice da dn dc] w0 T ps m 0 v5 W5) := Lib.hid ⟨_, by have := HM2.out; simp; omega, HQ5.out, HTT.out⟩
    go_upto_region 20 with fail
    clear c0 c1 c2 c3 c4 c5 HTT
    go_loopw [0, 78] (fun v i wr => ∃ j : Nat, j ≤ pn ∧ i = .int .i64 j ∧ LQ s ob #[.int .u8 44, .int .i64 a, .int .u8 b, .bool g, .slice pa pn pc, .slice da dn dc] w0 T ps m j v wr) (fun _ i _ => pn - (intOf i).toNat)
    case atStart => exact ⟨0, by omega, rfl, HLL.out⟩
    case round =>
      obtain ⟨j, hj, rfl, Ll, hll, hq, hTe⟩ := hrel
      by_cases hjn : j < pn
      · have hjni : (j : Int) < (pn : Int) := by omega
        have hj0 : (0 : Int) ≤ (j : Int) := Int.natCast_nonneg _
        obtain ⟨x, hxx⟩ : ∃ x, ps[j]? = some x := ⟨_, List.getElem?_eq_getElem (by rw [← HPN.out]; exact hjn)⟩
        obtain ⟨_, _, e, hc⟩ := HP.out.belowS hq.old
        injection e with e1 e2 e3
        clear e2
        subst e1 e3
        obtain ⟨gg, off, rfl, _, hcc⟩ := hc (by intro e; rw [e] at hxx; simp at hxx)
        obtain ⟨d0, d1⟩ := hcc j x hxx
        have hdr : flatI (ps.drop j) = [x.1, x.2] ++ flatI (ps.drop (j + 1)) := flatI_drop ps j x hxx
        obtain ⟨x1, x2⟩ := x
        simp only at d0 d1 hdr
        have HQL := Lib.hid (hq.alloc (.cells #[.int .u8 x1, .int .u8 x2] 117))
        have hr9 := row_two8 (wr.alloc (.cells #[.int .u8 x1, .int .u8 x2] 117)) x1 x2 5
        rw [World.size_alloc] at hr9
        have HR9 := Lib.hid hr9
        have HTE := Lib.hid hTe
        have HDR := Lib.hid hdr
        have HLN := Lib.hid hll
        clear hxx hc hcc hTe hdr hll hq hr9
        go_upto_region 22 with fail
        go_wp2_with (at_builtin; go_loud (refine append_grow rfl _ _ rfl (HQL.out.alloc _).own HR9.out (fun _ _ h => by cases h) rfl rfl (by have := HM.out; have := HM2.out; have := HLN.out; simp; omega) (HQL.out.alloc _).size ?_); intro v9 W9 hown hg; have HQ9 := Lib.hid ((HQL.out.alloc _).grown hown hg); clear hown hg)
        go_roundw
        case rel => exact ⟨j + 1, by omega, by go_num, _, by have := HLN.out; simp; omega, HQ9.out, by rw [HTE.out, HDR.out]; simp⟩
        case measure => simp [intOf]; omega
      · obtain rfl : pn = j := by omega
        have HTE : Hid (T = Ll) := Lib.hid (by rw [hTe, List.drop_of_length_le (by rw [← HPN.out]; exact Nat.le_refl _)]; simp [flatI])
        have HQL := Lib.hid hq
        clear hTe hq hll
        go_wp2_with fail
        go_ret
        exact ⟨_, rfl, by rw [HTE.out]; exact HQL.out.own, HQL.out.old⟩
end Go.Proofs.YtmmgebiojpnhcaaDoor.Ord
