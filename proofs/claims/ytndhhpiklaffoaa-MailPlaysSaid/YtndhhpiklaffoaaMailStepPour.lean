/-
  A step of two queues and the reference's: one is poured into the other.
-/
import Derived.Test.YtndhhpiklaffoaaMailPlaysB
import Derived.Deep.CutBlock
import Derived.Deep.DeepCutAuto
import Derived.Deep.RegionHeld3
namespace Go.Proofs.Ytndhhpiklaffoaa.Mail
open Go.RowKit
open Clock (heap_set)
set_option linter.unusedVariables false
section
variable {s g t ow : Nat} {w W W' : World} {r1 r2 : Nat} {A1 A2 X1 X2 : List Int} {c1 c2 d1 d2 : Bool} {u1 u2 : Value} {kind x : Int} {oth : Bool}
set_option maxRecDepth 100000 in
set_option maxHeartbeats 40000000 in
theorem step_pour1 (h : MQ s g t w r1 r2 A1 c1 A2 c2 A1 c1 u1 A2 c2 u2 W) :
    Calls Try.prog 14 #[.slice (some ⟨g, 0, none⟩) 2 2, .slice (some ⟨t, 0, none⟩) 2 2, .int .i64 0, .agg #[.int .i64 8, .int .i64 x, .bool oth]] W fun e W' => e = .returned (.bool true) ∧ Even s g t w r1 r2 W' := by
  obtain ⟨ow, how⟩ : ∃ ow, ow = W.heap.size := ⟨_, rfl⟩
  obtain ⟨W1, hW1⟩ : ∃ W1, W1 = W.alloc (.cells #[.int .i64 8, .int .i64 x, .bool oth] 33) := ⟨_, rfl⟩
  have K1 : KQ s g t w r1 r2 A1 c1 A2 c2 A1 c1 u1 A2 c2 u2 ow x W1 := by
    rw [hW1, how]
    exact ⟨h.alloc _, ⟨_, _, heap_alloc_new W _⟩, h.lt⟩
  have hr1 : r1 ≤ 1024 := h.q1.most
  have HK1 := Lib.hid K1
  have HW1 := Lib.hid hW1
  have HOW := Lib.hid how
  have HOWL : Hid (ow < W1.heap.size) := by obtain ⟨_, _, hb⟩ := K1.ob; exact lt_of_block hb
  have ks := K1.ks
  rw [hW1, how] at ks
  unfold KS at ks
  obtain ⟨g0, g1, t0, t1, t2, t3, t4, t5, o1, tl, _⟩ := ks
  clear h K1 hW1 how
  go_enter Try.func14, Try.ntmps14
  go_wp2_with fail
  rw [← HW1.out, ← HOW.out]
  clear g0 g1 t0 t1 t2 t3 t4 t5 o1 tl
  have hw1 : IntKind.i64.wrap 1 = 1 := by decide
  have hw0 : IntKind.i64.wrap 0 = 0 := by decide
  have hw10 : IntKind.i64.wrap (1 - 0) = 1 := by decide
  have hw11 : IntKind.i64.wrap (1 - 1) = 0 := by decide
  have ks := HK1.out.ks
  unfold KS at ks
  go_region_held3 (fun W => W.cell? ⟨g, 0, none⟩ = some (.pointer (some ⟨s + 1, 0, none⟩)) ∧ W.cell? ⟨g, 1, none⟩ = some (.pointer (some ⟨s + 2 + 1, 0, none⟩))) (first | assumption | exact ⟨ks.1, ks.2.1⟩ | exact ⟨HK1.out.drew.ks.1, HK1.out.drew.ks.2.1⟩ | exact ⟨(KQ.ks (by assumption)).1, (KQ.ks (by assumption)).2.1⟩)
    (first | (go_at_call 24; refine (pour_any s r1 (s + 2) r2 A1 A2 c1 c2 _ HK1.out.drew.mq.q1 HK1.out.drew.mq.q2 (by omega)).mono ?_; rintro e w2 ⟨rfl, q2, q2', T2, hz2⟩; clear hz2; have K2 := KQ.turn12 HK1.out.drew q2 q2' T2))
  have f2 := K2.ks
  unfold KS at f2
  obtain ⟨g0, g1, t0, t1, t2, t3, t4, t5, o1, tl, _⟩ := f2
  have HK2 := Lib.hid K2
  clear K2 ks
  go_upto_region 36 with fail
  obtain ⟨N, hN⟩ : ∃ N, N = pourN r2 c2 A1 A2 := ⟨_, rfl⟩
  rw [← hN]
  rw [← hN] at HK2
  have HNN := Lib.hid hN
  have hx1 := HK1.out.mq.q1.fits
  have hx2 := HK1.out.mq.q1.most
  have hx3 := HK1.out.mq.q2.fits
  have hx4 := HK1.out.mq.q2.most
  have HL := Lib.hid hx1
  have HM := Lib.hid hx2
  have HL' := Lib.hid hx3
  have HM' := Lib.hid hx4
  have HOW2 : Hid (ow < w2.heap.size) := by obtain ⟨_, _, hb⟩ := HK2.out.ob; exact lt_of_block hb
  clear hN hx1 hx2 hx3 hx4
  go_cut [27, 28, 29] (fun p p' m wx => ∃ fb tb vf vt, p = .pointer (some ⟨fb, 0, none⟩) ∧ p' = .pointer (some ⟨tb, 0, none⟩) ∧ m = .int .i64 (N : Nat) ∧ wx.heap[fb]? = some (.cells #[vf, .int .i64 r1, .bool c1] 29 (0, 0)) ∧ wx.heap[tb]? = some (.cells #[vt, .int .i64 r2, .bool c2] 29 (0, 0)) ∧ t < fb ∧ t < tb ∧
    RowFrom (Aft t) wx vf (A1.drop N) ∧ RowFrom (Aft t) wx vt (A2 ++ A1.take N) ∧ KQ s g t w r1 r2 (A1.drop N) c1 (A2 ++ A1.take N) c2 A1 c1 u1 A2 c2 u2 ow x wx)
  case first =>
    go_region_held3 (fun W => W.cell? ⟨t, 0, none⟩ = some u1 ∧ W.cell? ⟨t, 1, none⟩ = some (.int .i64 r1) ∧ W.cell? ⟨t, 2, none⟩ = some (.bool c1) ∧ W.cell? ⟨t, 3, none⟩ = some u2 ∧ W.cell? ⟨t, 4, none⟩ = some (.int .i64 r2) ∧ W.cell? ⟨t, 5, none⟩ = some (.bool c2) ∧ t < W.heap.size ∧ KQ s g t w r1 r2 (A1.drop N) c1 (A2 ++ A1.take N) c2 A1 c1 u1 A2 c2 u2 ow x W)
      (with_reducible (first | assumption | (refine KQ.kt ?_; first | exact HK2.out | exact HK2.out.drew | assumption | exact (HK2.out.alloc _).drew | exact ((HK2.out.alloc _).alloc _).drew | exact KQ.drew (by assumption) | exact HK2.out.drew.alloc _ | exact (HK2.out.drew.alloc _).alloc _ | exact KQ.alloc (by assumption) _ | exact KQ.alloc (KQ.alloc (by assumption) _) _ | exact (KQ.box3 (by assumption) (by assumption) rfl (by have := HK2.out.mq.lt; omega) (by have := HOW2.out; omega)).1 | exact KQ.alloc (KQ.box3 (by assumption) (by assumption) rfl (by have := HK2.out.mq.lt; omega) (by have := HOW2.out; omega)).1 _ | exact (KQ.box33 (by assumption) (by assumption) (by assumption) rfl rfl (by have := HK2.out.mq.lt; omega) (by have := HK2.out.mq.lt; omega) (by have := HOW2.out; omega) (by have := HOW2.out; omega) (by omega)).1)))
      (first | (go_at_call 43; refine (rpour_any (Aft t) r1 r2 A1 A2 c1 c2 u1 u2 _ (KQ.mq (by with_reducible (first | exact HK2.out.drew | exact (HK2.out.alloc _).drew | exact ((HK2.out.alloc _).alloc _).drew | exact HK2.out.drew.alloc _ | exact (HK2.out.drew.alloc _).alloc _))).v1 (KQ.mq (by with_reducible (first | exact HK2.out.drew | exact (HK2.out.alloc _).drew | exact ((HK2.out.alloc _).alloc _).drew | exact HK2.out.drew.alloc _ | exact (HK2.out.drew.alloc _).alloc _))).v2 HM'.out (by have := HL.out; have := HM.out; omega) HL'.out (by intro b hb; unfold Aft; have := HK2.out.mq.lt; simp at hb; omega)).mono ?_; rintro e w4 ⟨vf, vt, rfl, G1, G2, U4⟩; rw [← HNN.out] at G1 G2; rw [← HNN.out]; have K4 := KQ.below (by with_reducible (first | exact HK2.out.drew | exact (HK2.out.alloc _).drew | exact ((HK2.out.alloc _).alloc _).drew | exact HK2.out.drew.alloc _ | exact (HK2.out.drew.alloc _).alloc _)) U4; have HG1 := Lib.hid G1; have HG2 := Lib.hid G2; obtain ⟨fa, fc, hf, hx8⟩ := G1; obtain ⟨ta, tc, ht, hx9⟩ := G2; clear hx8 hx9; obtain ⟨n5, hn5⟩ : ∃ n5, n5 = (A1.drop N).length := ⟨_, rfl⟩; obtain ⟨n6, hn6⟩ : ∃ n6, n6 = (A2 ++ A1.take N).length := ⟨_, rfl⟩; rw [← hn5] at hf; rw [← hn6] at ht; subst hf ht; clear hn5 hn6; (first
        | (have Y4 := (U4.block w2.heap.size (by (first | (simp; done) | (simp; omega)))).trans (two_alloc w2.drew (.cells #[.slice none 0 0, .int .i64 0, .bool false] 29)).1; have Y5 := (U4.block (w2.heap.size + 1) (by (first | (simp; done) | (simp; omega)))).trans (two_alloc w2.drew (.cells #[.slice none 0 0, .int .i64 0, .bool false] 29)).2; obtain ⟨y0, y1, y2, yf⟩ := yfacts Y4; have yl := lt_of_block Y4; obtain ⟨z0, z1, z2, zf⟩ := yfacts Y5; have zl := lt_of_block Y5)
        | (have Y4 := (U4.block w2.heap.size (by simp)).trans (heap_alloc_new w2.drew (.cells #[.slice none 0 0, .int .i64 0, .bool false] 29)); obtain ⟨y0, y1, y2, yf⟩ := yfacts Y4; have yl := lt_of_block Y4)
        | skip)))
    all_goals
      go_wp2_with fail
      go_meet
      case rel => with_reducible first
        | (obtain ⟨k, e1, e2, f⟩ := K4.aa (.cells #[.slice fa n5 fc, .int .i64 r1, .bool c1] 29) (.cells #[.slice ta n6 tc, .int .i64 r2, .bool c2] 29); exact ⟨w4.heap.size, w4.heap.size + 1, _, _, rfl, rfl, rfl, e1, e2, by have := K4.mq.lt; omega, by have := K4.mq.lt; omega, f _ _ _ HG1.out, f _ _ _ HG2.out, k⟩)
        | (obtain ⟨k, e1, e2, f⟩ := K4.aa (.cells #[.slice ta n6 tc, .int .i64 r2, .bool c2] 29) (.cells #[.slice fa n5 fc, .int .i64 r1, .bool c1] 29); exact ⟨w4.heap.size + 1, w4.heap.size, _, _, rfl, rfl, rfl, e2, e1, by have := K4.mq.lt; omega, by have := K4.mq.lt; omega, f _ _ _ HG1.out, f _ _ _ HG2.out, k⟩)
        | (obtain ⟨k, e1, e2, f⟩ := K4.ba (v := .slice fa n5 fc) (r := .int .i64 r1) (c := .bool c1) Y4 rfl (by have := HK2.out.mq.lt; omega) (by have := HOW2.out; omega) (.cells #[.slice ta n6 tc, .int .i64 r2, .bool c2] 29); exact ⟨w2.heap.size, w4.heap.size, _, _, rfl, rfl, rfl, e1, e2, by have := HK2.out.mq.lt; omega, by have := K4.mq.lt; omega, f _ _ _ HG1.out, f _ _ _ HG2.out, k⟩)
        | (obtain ⟨k, e1, e2, f⟩ := K4.ba (v := .slice ta n6 tc) (r := .int .i64 r2) (c := .bool c2) Y4 rfl (by have := HK2.out.mq.lt; omega) (by have := HOW2.out; omega) (.cells #[.slice fa n5 fc, .int .i64 r1, .bool c1] 29); exact ⟨w4.heap.size, w2.heap.size, _, _, rfl, rfl, rfl, e2, e1, by have := K4.mq.lt; omega, by have := HK2.out.mq.lt; omega, f _ _ _ HG1.out, f _ _ _ HG2.out, k⟩)
        | (obtain ⟨k, e1, e2, f⟩ := K4.box33 (v := .slice fa n5 fc) (r := .int .i64 r1) (c := .bool c1) (v' := .slice ta n6 tc) (r' := .int .i64 r2) (c' := .bool c2) Y4 Y5 rfl rfl (by have := HK2.out.mq.lt; omega) (by have := HK2.out.mq.lt; omega) (by have := HOW2.out; omega) (by have := HOW2.out; omega) (by omega); exact ⟨w2.heap.size, w2.heap.size + 1, _, _, rfl, rfl, rfl, e1, e2, by have := HK2.out.mq.lt; omega, by have := HK2.out.mq.lt; omega, f _ _ _ HG1.out, f _ _ _ HG2.out, k⟩)
        | (obtain ⟨k, e1, e2, f⟩ := K4.box33 (v := .slice fa n5 fc) (r := .int .i64 r1) (c := .bool c1) (v' := .slice ta n6 tc) (r' := .int .i64 r2) (c' := .bool c2) Y5 Y4 rfl rfl (by have := HK2.out.mq.lt; omega) (by have := HK2.out.mq.lt; omega) (by have := HOW2.out; omega) (by have := HOW2.out; omega) (by omega); exact ⟨w2.heap.size + 1, w2.heap.size, _, _, rfl, rfl, rfl, e1, e2, by have := HK2.out.mq.lt; omega, by have := HK2.out.mq.lt; omega, f _ _ _ HG1.out, f _ _ _ HG2.out, k⟩)
  case rest =>
    obtain ⟨fb, tb, vf, vt, rfl, rfl, rfl, hfb, htb, hlf, hlt, GF, GT, K⟩ := hcut
    obtain ⟨fa, fc, hf, hx8⟩ := id GF
    obtain ⟨ta, tc, ht, hx9⟩ := id GT
    clear hx8 hx9
    obtain ⟨n5, hn5⟩ : ∃ n5, n5 = (A1.drop N).length := ⟨_, rfl⟩
    obtain ⟨n6, hn6⟩ : ∃ n6, n6 = (A2 ++ A1.take N).length := ⟨_, rfl⟩
    rw [← hn5] at hf
    rw [← hn6] at ht
    subst hf ht
    obtain ⟨y0, y1, y2, yf⟩ := yfacts hfb
    obtain ⟨z0, z1, z2, zf⟩ := yfacts htb
    obtain ⟨t0, t1, t2, t3, t4, t5, tl, kk⟩ := K.kt
    obtain ⟨_, _, _, _, _, _, _, _, tf⟩ := K.mq.facts
    have HK := Lib.hid K
    have HGF := Lib.hid GF
    have HGT := Lib.hid GT
    clear hn5 hn6 K GF GT HK1 HK2 kk
    have K1 := HK.out.row1 HGF.out c1
    have GT1 := ((HGT.out.setCell t 0 (.slice fa n5 fc) (by unfold Aft; omega)).setCell t 1 (.int .i64 r1) (by unfold Aft; omega)).setCell t 2 (.bool c1) (by unfold Aft; omega)
    have K2 := K1.row2 GT1 c2
    obtain ⟨W9, hW9⟩ : ∃ W9, W9 = (((((wc.setCell ⟨t, 0, none⟩ (.slice fa n5 fc)).setCell ⟨t, 1, none⟩ (.int .i64 r1)).setCell ⟨t, 2, none⟩ (.bool c1)).setCell ⟨t, 3, none⟩ (.slice ta n6 tc)).setCell ⟨t, 4, none⟩ (.int .i64 r2)).setCell ⟨t, 5, none⟩ (.bool c2) := ⟨_, rfl⟩
    rw [← hW9] at K2
    have HK9 := Lib.hid K2
    have HW9 := Lib.hid hW9
    clear K1 GT1 K2 hW9
    go_wp2_with fail
    go_region
    all_goals
      go_wp2_with fail
      rw [← HW9.out]
      go_ret
      exact ⟨rfl, _, _, _, _, _, _, HK9.out.drew.mq⟩
set_option maxRecDepth 100000 in
set_option maxHeartbeats 40000000 in
theorem step_pour2 (h : MQ s g t w r1 r2 A1 c1 A2 c2 A1 c1 u1 A2 c2 u2 W) :
    Calls Try.prog 14 #[.slice (some ⟨g, 0, none⟩) 2 2, .slice (some ⟨t, 0, none⟩) 2 2, .int .i64 1, .agg #[.int .i64 8, .int .i64 x, .bool oth]] W fun e W' => e = .returned (.bool true) ∧ Even s g t w r1 r2 W' := by
  obtain ⟨ow, how⟩ : ∃ ow, ow = W.heap.size := ⟨_, rfl⟩
  obtain ⟨W1, hW1⟩ : ∃ W1, W1 = W.alloc (.cells #[.int .i64 8, .int .i64 x, .bool oth] 33) := ⟨_, rfl⟩
  have K1 : KQ s g t w r1 r2 A1 c1 A2 c2 A1 c1 u1 A2 c2 u2 ow x W1 := by
    rw [hW1, how]
    exact ⟨h.alloc _, ⟨_, _, heap_alloc_new W _⟩, h.lt⟩
  have hr1 : r2 ≤ 1024 := h.q2.most
  have HK1 := Lib.hid K1
  have HW1 := Lib.hid hW1
  have HOW := Lib.hid how
  have HOWL : Hid (ow < W1.heap.size) := by obtain ⟨_, _, hb⟩ := K1.ob; exact lt_of_block hb
  have ks := K1.ks
  rw [hW1, how] at ks
  unfold KS at ks
  obtain ⟨g0, g1, t0, t1, t2, t3, t4, t5, o1, tl, _⟩ := ks
  clear h K1 hW1 how
  go_enter Try.func14, Try.ntmps14
  go_wp2_with fail
  rw [← HW1.out, ← HOW.out]
  clear g0 g1 t0 t1 t2 t3 t4 t5 o1 tl
  have hw1 : IntKind.i64.wrap 1 = 1 := by decide
  have hw0 : IntKind.i64.wrap 0 = 0 := by decide
  have hw10 : IntKind.i64.wrap (1 - 0) = 1 := by decide
  have hw11 : IntKind.i64.wrap (1 - 1) = 0 := by decide
  have ks := HK1.out.ks
  unfold KS at ks
  go_region_held3 (fun W => W.cell? ⟨g, 0, none⟩ = some (.pointer (some ⟨s + 1, 0, none⟩)) ∧ W.cell? ⟨g, 1, none⟩ = some (.pointer (some ⟨s + 2 + 1, 0, none⟩))) (first | assumption | exact ⟨ks.1, ks.2.1⟩ | exact ⟨HK1.out.drew.ks.1, HK1.out.drew.ks.2.1⟩ | exact ⟨(KQ.ks (by assumption)).1, (KQ.ks (by assumption)).2.1⟩)
    (first | (go_at_call 24; refine (pour_any (s + 2) r2 s r1 A2 A1 c2 c1 _ HK1.out.drew.mq.q2 HK1.out.drew.mq.q1 (by omega)).mono ?_; rintro e w2 ⟨rfl, q2, q2', T2, hz2⟩; clear hz2; have K2 := KQ.turn12 HK1.out.drew q2' q2 (T2.mono (by intro k h; exact Or.symm h))))
  have f2 := K2.ks
  unfold KS at f2
  obtain ⟨g0, g1, t0, t1, t2, t3, t4, t5, o1, tl, _⟩ := f2
  have HK2 := Lib.hid K2
  clear K2 ks
  go_upto_region 36 with fail
  obtain ⟨N, hN⟩ : ∃ N, N = pourN r1 c1 A2 A1 := ⟨_, rfl⟩
  rw [← hN]
  rw [← hN] at HK2
  have HNN := Lib.hid hN
  have hx1 := HK1.out.mq.q2.fits
  have hx2 := HK1.out.mq.q2.most
  have hx3 := HK1.out.mq.q1.fits
  have hx4 := HK1.out.mq.q1.most
  have HL := Lib.hid hx1
  have HM := Lib.hid hx2
  have HL' := Lib.hid hx3
  have HM' := Lib.hid hx4
  have HOW2 : Hid (ow < w2.heap.size) := by obtain ⟨_, _, hb⟩ := HK2.out.ob; exact lt_of_block hb
  clear hN hx1 hx2 hx3 hx4
  go_cut [27, 28, 29] (fun p p' m wx => ∃ fb tb vf vt, p = .pointer (some ⟨fb, 0, none⟩) ∧ p' = .pointer (some ⟨tb, 0, none⟩) ∧ m = .int .i64 (N : Nat) ∧ wx.heap[fb]? = some (.cells #[vf, .int .i64 r2, .bool c2] 29 (0, 0)) ∧ wx.heap[tb]? = some (.cells #[vt, .int .i64 r1, .bool c1] 29 (0, 0)) ∧ t < fb ∧ t < tb ∧
    RowFrom (Aft t) wx vf (A2.drop N) ∧ RowFrom (Aft t) wx vt (A1 ++ A2.take N) ∧ KQ s g t w r1 r2 (A1 ++ A2.take N) c1 (A2.drop N) c2 A1 c1 u1 A2 c2 u2 ow x wx)
  case first =>
    go_region_held3 (fun W => W.cell? ⟨t, 0, none⟩ = some u1 ∧ W.cell? ⟨t, 1, none⟩ = some (.int .i64 r1) ∧ W.cell? ⟨t, 2, none⟩ = some (.bool c1) ∧ W.cell? ⟨t, 3, none⟩ = some u2 ∧ W.cell? ⟨t, 4, none⟩ = some (.int .i64 r2) ∧ W.cell? ⟨t, 5, none⟩ = some (.bool c2) ∧ t < W.heap.size ∧ KQ s g t w r1 r2 (A1 ++ A2.take N) c1 (A2.drop N) c2 A1 c1 u1 A2 c2 u2 ow x W)
      (with_reducible (first | assumption | (refine KQ.kt ?_; first | exact HK2.out | exact HK2.out.drew | assumption | exact (HK2.out.alloc _).drew | exact ((HK2.out.alloc _).alloc _).drew | exact KQ.drew (by assumption) | exact HK2.out.drew.alloc _ | exact (HK2.out.drew.alloc _).alloc _ | exact KQ.alloc (by assumption) _ | exact KQ.alloc (KQ.alloc (by assumption) _) _ | exact (KQ.box3 (by assumption) (by assumption) rfl (by have := HK2.out.mq.lt; omega) (by have := HOW2.out; omega)).1 | exact KQ.alloc (KQ.box3 (by assumption) (by assumption) rfl (by have := HK2.out.mq.lt; omega) (by have := HOW2.out; omega)).1 _ | exact (KQ.box33 (by assumption) (by assumption) (by assumption) rfl rfl (by have := HK2.out.mq.lt; omega) (by have := HK2.out.mq.lt; omega) (by have := HOW2.out; omega) (by have := HOW2.out; omega) (by omega)).1)))
      (first | (go_at_call 43; refine (rpour_any (Aft t) r2 r1 A2 A1 c2 c1 u2 u1 _ (KQ.mq (by with_reducible (first | exact HK2.out.drew | exact (HK2.out.alloc _).drew | exact ((HK2.out.alloc _).alloc _).drew | exact HK2.out.drew.alloc _ | exact (HK2.out.drew.alloc _).alloc _))).v2 (KQ.mq (by with_reducible (first | exact HK2.out.drew | exact (HK2.out.alloc _).drew | exact ((HK2.out.alloc _).alloc _).drew | exact HK2.out.drew.alloc _ | exact (HK2.out.drew.alloc _).alloc _))).v1 HM'.out (by have := HL.out; have := HM.out; omega) HL'.out (by intro b hb; unfold Aft; have := HK2.out.mq.lt; simp at hb; omega)).mono ?_; rintro e w4 ⟨vf, vt, rfl, G1, G2, U4⟩; rw [← HNN.out] at G1 G2; rw [← HNN.out]; have K4 := KQ.below (by with_reducible (first | exact HK2.out.drew | exact (HK2.out.alloc _).drew | exact ((HK2.out.alloc _).alloc _).drew | exact HK2.out.drew.alloc _ | exact (HK2.out.drew.alloc _).alloc _)) U4; have HG1 := Lib.hid G1; have HG2 := Lib.hid G2; obtain ⟨fa, fc, hf, hx8⟩ := G1; obtain ⟨ta, tc, ht, hx9⟩ := G2; clear hx8 hx9; obtain ⟨n5, hn5⟩ : ∃ n5, n5 = (A2.drop N).length := ⟨_, rfl⟩; obtain ⟨n6, hn6⟩ : ∃ n6, n6 = (A1 ++ A2.take N).length := ⟨_, rfl⟩; rw [← hn5] at hf; rw [← hn6] at ht; subst hf ht; clear hn5 hn6; (first
        | (have Y4 := (U4.block w2.heap.size (by (first | (simp; done) | (simp; omega)))).trans (two_alloc w2.drew (.cells #[.slice none 0 0, .int .i64 0, .bool false] 29)).1; have Y5 := (U4.block (w2.heap.size + 1) (by (first | (simp; done) | (simp; omega)))).trans (two_alloc w2.drew (.cells #[.slice none 0 0, .int .i64 0, .bool false] 29)).2; obtain ⟨y0, y1, y2, yf⟩ := yfacts Y4; have yl := lt_of_block Y4; obtain ⟨z0, z1, z2, zf⟩ := yfacts Y5; have zl := lt_of_block Y5)
        | (have Y4 := (U4.block w2.heap.size (by simp)).trans (heap_alloc_new w2.drew (.cells #[.slice none 0 0, .int .i64 0, .bool false] 29)); obtain ⟨y0, y1, y2, yf⟩ := yfacts Y4; have yl := lt_of_block Y4)
        | skip)))
    all_goals
      go_wp2_with fail
      go_meet
      case rel => with_reducible first
        | (obtain ⟨k, e1, e2, f⟩ := K4.aa (.cells #[.slice fa n5 fc, .int .i64 r2, .bool c2] 29) (.cells #[.slice ta n6 tc, .int .i64 r1, .bool c1] 29); exact ⟨w4.heap.size, w4.heap.size + 1, _, _, rfl, rfl, rfl, e1, e2, by have := K4.mq.lt; omega, by have := K4.mq.lt; omega, f _ _ _ HG1.out, f _ _ _ HG2.out, k⟩)
        | (obtain ⟨k, e1, e2, f⟩ := K4.aa (.cells #[.slice ta n6 tc, .int .i64 r1, .bool c1] 29) (.cells #[.slice fa n5 fc, .int .i64 r2, .bool c2] 29); exact ⟨w4.heap.size + 1, w4.heap.size, _, _, rfl, rfl, rfl, e2, e1, by have := K4.mq.lt; omega, by have := K4.mq.lt; omega, f _ _ _ HG1.out, f _ _ _ HG2.out, k⟩)
        | (obtain ⟨k, e1, e2, f⟩ := K4.ba (v := .slice fa n5 fc) (r := .int .i64 r2) (c := .bool c2) Y4 rfl (by have := HK2.out.mq.lt; omega) (by have := HOW2.out; omega) (.cells #[.slice ta n6 tc, .int .i64 r1, .bool c1] 29); exact ⟨w2.heap.size, w4.heap.size, _, _, rfl, rfl, rfl, e1, e2, by have := HK2.out.mq.lt; omega, by have := K4.mq.lt; omega, f _ _ _ HG1.out, f _ _ _ HG2.out, k⟩)
        | (obtain ⟨k, e1, e2, f⟩ := K4.ba (v := .slice ta n6 tc) (r := .int .i64 r1) (c := .bool c1) Y4 rfl (by have := HK2.out.mq.lt; omega) (by have := HOW2.out; omega) (.cells #[.slice fa n5 fc, .int .i64 r2, .bool c2] 29); exact ⟨w4.heap.size, w2.heap.size, _, _, rfl, rfl, rfl, e2, e1, by have := K4.mq.lt; omega, by have := HK2.out.mq.lt; omega, f _ _ _ HG1.out, f _ _ _ HG2.out, k⟩)
        | (obtain ⟨k, e1, e2, f⟩ := K4.box33 (v := .slice fa n5 fc) (r := .int .i64 r2) (c := .bool c2) (v' := .slice ta n6 tc) (r' := .int .i64 r1) (c' := .bool c1) Y4 Y5 rfl rfl (by have := HK2.out.mq.lt; omega) (by have := HK2.out.mq.lt; omega) (by have := HOW2.out; omega) (by have := HOW2.out; omega) (by omega); exact ⟨w2.heap.size, w2.heap.size + 1, _, _, rfl, rfl, rfl, e1, e2, by have := HK2.out.mq.lt; omega, by have := HK2.out.mq.lt; omega, f _ _ _ HG1.out, f _ _ _ HG2.out, k⟩)
        | (obtain ⟨k, e1, e2, f⟩ := K4.box33 (v := .slice fa n5 fc) (r := .int .i64 r2) (c := .bool c2) (v' := .slice ta n6 tc) (r' := .int .i64 r1) (c' := .bool c1) Y5 Y4 rfl rfl (by have := HK2.out.mq.lt; omega) (by have := HK2.out.mq.lt; omega) (by have := HOW2.out; omega) (by have := HOW2.out; omega) (by omega); exact ⟨w2.heap.size + 1, w2.heap.size, _, _, rfl, rfl, rfl, e1, e2, by have := HK2.out.mq.lt; omega, by have := HK2.out.mq.lt; omega, f _ _ _ HG1.out, f _ _ _ HG2.out, k⟩)
  case rest =>
    obtain ⟨fb, tb, vf, vt, rfl, rfl, rfl, hfb, htb, hlf, hlt, GF, GT, K⟩ := hcut
    obtain ⟨fa, fc, hf, hx8⟩ := id GF
    obtain ⟨ta, tc, ht, hx9⟩ := id GT
    clear hx8 hx9
    obtain ⟨n5, hn5⟩ : ∃ n5, n5 = (A2.drop N).length := ⟨_, rfl⟩
    obtain ⟨n6, hn6⟩ : ∃ n6, n6 = (A1 ++ A2.take N).length := ⟨_, rfl⟩
    rw [← hn5] at hf
    rw [← hn6] at ht
    subst hf ht
    obtain ⟨y0, y1, y2, yf⟩ := yfacts hfb
    obtain ⟨z0, z1, z2, zf⟩ := yfacts htb
    obtain ⟨t0, t1, t2, t3, t4, t5, tl, kk⟩ := K.kt
    obtain ⟨_, _, _, _, _, _, _, _, tf⟩ := K.mq.facts
    have HK := Lib.hid K
    have HGF := Lib.hid GF
    have HGT := Lib.hid GT
    clear hn5 hn6 K GF GT HK1 HK2 kk
    have K1 := HK.out.row2 HGF.out c2
    have GT1 := ((HGT.out.setCell t 3 (.slice fa n5 fc) (by unfold Aft; omega)).setCell t 4 (.int .i64 r2) (by unfold Aft; omega)).setCell t 5 (.bool c2) (by unfold Aft; omega)
    have K2 := K1.row1 GT1 c1
    obtain ⟨W9, hW9⟩ : ∃ W9, W9 = (((((wc.setCell ⟨t, 3, none⟩ (.slice fa n5 fc)).setCell ⟨t, 4, none⟩ (.int .i64 r2)).setCell ⟨t, 5, none⟩ (.bool c2)).setCell ⟨t, 0, none⟩ (.slice ta n6 tc)).setCell ⟨t, 1, none⟩ (.int .i64 r1)).setCell ⟨t, 2, none⟩ (.bool c1) := ⟨_, rfl⟩
    rw [← hW9] at K2
    have HK9 := Lib.hid K2
    have HW9 := Lib.hid hW9
    clear K1 GT1 K2 hW9
    go_wp2_with fail
    go_region
    all_goals
      go_wp2_with fail
      rw [← HW9.out]
      go_ret
      exact ⟨rfl, _, _, _, _, _, _, HK9.out.drew.mq⟩
end
end Go.Proofs.Ytndhhpiklaffoaa.Mail
