/-
  A step of two queues and the reference's: a thing is put.
-/
import Derived.Test.YtndhhpiklaffoaaMailPlaysB
import Derived.Deep.CutBlock
import Derived.Deep.DeepCutAuto
import Derived.Deep.RegionHeld3
namespace Go.Proofs.Ytndhhpiklaffoaa.Mail
open Go.RowKit
open Clock (heap_set)
set_option linter.unusedVariables false
section
variable {s g t ow : Nat} {w W W' : World} {r1 r2 : Nat} {A1 A2 X1 X2 : List Int} {c1 c2 d1 d2 : Bool} {u1 u2 : Value} {kind x : Int} {oth : Bool}
set_option maxRecDepth 100000 in
set_option maxHeartbeats 4000000 in
theorem step_put1 (h : MQ s g t w r1 r2 A1 c1 A2 c2 A1 c1 u1 A2 c2 u2 W) (hk : kind = 0 ∨ kind = 1 ∨ kind = 2) :
    Calls Try.prog 14 #[.slice (some ⟨g, 0, none⟩) 2 2, .slice (some ⟨t, 0, none⟩) 2 2, .int .i64 0, .agg #[.int .i64 kind, .int .i64 x, .bool oth]] W fun e W' => e = .returned (.bool true) ∧ Even s g t w r1 r2 W' := by
  obtain ⟨ow, how⟩ : ∃ ow, ow = W.heap.size := ⟨_, rfl⟩
  obtain ⟨W1, hW1⟩ : ∃ W1, W1 = W.alloc (.cells #[.int .i64 kind, .int .i64 x, .bool oth] 33) := ⟨_, rfl⟩
  have K1 : KQ s g t w r1 r2 A1 c1 A2 c2 A1 c1 u1 A2 c2 u2 ow x W1 := by
    rw [hW1, how]
    exact ⟨h.alloc _, ⟨_, _, heap_alloc_new W _⟩, h.lt⟩
  have hr1 : r1 ≤ 1024 := h.q1.most
  have HK1 := Lib.hid K1
  have HW1 := Lib.hid hW1
  have HOW := Lib.hid how
  have HOWL : Hid (ow < W1.heap.size) := by obtain ⟨_, _, hb⟩ := K1.ob; exact lt_of_block hb
  clear h K1 hW1 how
  rcases hk with rfl | rfl | rfl
  all_goals
    go_enter Try.func14, Try.ntmps14
    go_upto_region 5 with fail
    rw [← HW1.out, ← HOW.out]
    go_cut [9, 10] (fun p f wx => ∃ yb u', p = .pointer (some ⟨yb, 0, none⟩) ∧ f = .int .i64 (putE r1 A1 c1) ∧ wx.heap[yb]? = some (.cells #[u', .int .i64 r1, .bool c1] 29 (0, 0)) ∧ t < yb ∧ RowFrom (Aft t) wx u' (putL r1 A1 c1 x) ∧ KQ s g t w r1 r2 A1 c1 A2 c2 A1 c1 u1 A2 c2 u2 ow x wx)
    case first =>
      have ks := HK1.out.ks
      unfold KS at ks
      go_region_held3 (fun W => W.cell? ⟨g, 0, none⟩ = some (.pointer (some ⟨s + 1, 0, none⟩)) ∧ W.cell? ⟨g, 1, none⟩ = some (.pointer (some ⟨s + 2 + 1, 0, none⟩)) ∧
    W.cell? ⟨t, 0, none⟩ = some u1 ∧ W.cell? ⟨t, 1, none⟩ = some (.int .i64 r1) ∧ W.cell? ⟨t, 2, none⟩ = some (.bool c1) ∧ W.cell? ⟨t, 3, none⟩ = some u2 ∧ W.cell? ⟨t, 4, none⟩ = some (.int .i64 r2) ∧ W.cell? ⟨t, 5, none⟩ = some (.bool c2) ∧
    W.cell? ⟨ow, 1, none⟩ = some (.int .i64 x) ∧ t < W.heap.size ∧ KQ s g t w r1 r2 A1 c1 A2 c2 A1 c1 u1 A2 c2 u2 ow x W) (first | assumption | exact KQ.ks HK1.out | exact KQ.ks HK1.out.drew | exact KQ.ks (HK1.out.drew.alloc _) | exact KQ.ks (KQ.box3 (by assumption) (by assumption) rfl (by have := HK1.out.mq.lt; omega) (by have := HOWL.out; omega)).1 | exact KQ.ks (by assumption) | exact KQ.ks (KQ.alloc (by assumption) _))
        (first | (go_at_call 41; refine (rput_any (Aft t) r1 x A1 c1 u1 _ (KQ.mq (by first | exact HK1.out.drew | exact HK1.out.drew.alloc _)).v1 hr1 (by intro b hb; unfold Aft; have := HK1.out.mq.lt; simp at hb; omega)).mono ?_; rintro e w4 ⟨u4, rfl, G4, U4⟩; have K4 := KQ.below (by first | exact HK1.out.drew | exact HK1.out.drew.alloc _) U4; have HG4 := Lib.hid G4; obtain ⟨va, vc, hu4, _⟩ := G4; obtain ⟨n4, hn4⟩ : ∃ n4, n4 = (putL r1 A1 c1 x).length := ⟨_, rfl⟩; rw [← hn4] at hu4; subst hu4; clear hn4; (try (have Y4 := (U4.block W1.heap.size (by simp)).trans (heap_alloc_new W1.drew _); obtain ⟨y0, y1, y2, yf⟩ := yfacts Y4))))
      all_goals
        go_wp2_with fail
        go_meet
        case rel => first
          | exact ⟨w4.heap.size, _, rfl, rfl, heap_alloc_new w4 _, by have := K4.mq.lt; omega, HG4.out.below ((Below.refl _ w4).alloc (Nat.le_refl _) _), K4.alloc _⟩
          | exact ⟨W1.heap.size, _, rfl, rfl, (KQ.box3 K4 Y4 rfl (by have := HK1.out.mq.lt; omega) (by have := HOWL.out; omega)).2.1, by have := HK1.out.mq.lt; omega, (KQ.box3 K4 Y4 rfl (by have := HK1.out.mq.lt; omega) (by have := HOWL.out; omega)).2.2 _ _ _ HG4.out, (KQ.box3 K4 Y4 rfl (by have := HK1.out.mq.lt; omega) (by have := HOWL.out; omega)).1⟩
    case rest =>
      obtain ⟨yb, u', rfl, rfl, hyb, htyb, G, K⟩ := hcut
      obtain ⟨va, vc, hu', _⟩ := id G
      obtain ⟨n4, hn4⟩ : ∃ n4, n4 = (putL r1 A1 c1 x).length := ⟨_, rfl⟩
      rw [← hn4] at hu'
      subst hu'
      obtain ⟨y0, y1, y2, yf⟩ := yfacts hyb
      have HK := Lib.hid K
      have HG := Lib.hid G
      obtain ⟨_, _, t0, t1, t2, _, _, _, o1, tl, _⟩ := K.ks
      obtain ⟨_, _, _, _, _, _, _, _, tf⟩ := K.mq.facts
      clear hn4 K G HK1
      go_wp2_with fail
      have K5 := HK.out.row1 HG.out c1
      obtain ⟨W5, hW5⟩ : ∃ W5, W5 = ((wc.setCell ⟨t, 0, none⟩ (.slice va n4 vc)).setCell ⟨t, 1, none⟩ (.int .i64 r1)).setCell ⟨t, 2, none⟩ (.bool c1) := ⟨_, rfl⟩
      rw [← hW5] at K5 ⊢
      have HK5 := Lib.hid K5
      have ks := K5.ks
      unfold KS at ks
      clear hW5 K5 t0 t1 t2 o1 tl tf y0 y1 y2 yf hyb HK HG
      go_region_held3 (fun W => W.cell? ⟨g, 0, none⟩ = some (.pointer (some ⟨s + 1, 0, none⟩)) ∧ W.cell? ⟨ow, 1, none⟩ = some (.int .i64 x)) (first | assumption | exact ⟨ks.1, ks.2.2.2.2.2.2.2.2.1⟩ | exact ⟨HK5.out.drew.ks.1, HK5.out.drew.ks.2.2.2.2.2.2.2.2.1⟩ | exact ⟨(KQ.ks (by assumption)).1, (KQ.ks (by assumption)).2.2.2.2.2.2.2.2.1⟩)
        (first | (go_at_call 21; refine (put_any s r1 A1 c1 x _ HK5.out.drew.mq.q1).mono ?_; rintro e w6 ⟨rfl, q6, T6, _⟩; have K6 := KQ.turn1 HK5.out.drew q6 T6))
      all_goals
        go_wp2
        go_ret
        exact ⟨rfl, _, _, _, _, _, _, K6.mq⟩
set_option maxRecDepth 100000 in
set_option maxHeartbeats 4000000 in
theorem step_put2 (h : MQ s g t w r1 r2 A1 c1 A2 c2 A1 c1 u1 A2 c2 u2 W) (hk : kind = 0 ∨ kind = 1 ∨ kind = 2) :
    Calls Try.prog 14 #[.slice (some ⟨g, 0, none⟩) 2 2, .slice (some ⟨t, 0, none⟩) 2 2, .int .i64 1, .agg #[.int .i64 kind, .int .i64 x, .bool oth]] W fun e W' => e = .returned (.bool true) ∧ Even s g t w r1 r2 W' := by
  obtain ⟨ow, how⟩ : ∃ ow, ow = W.heap.size := ⟨_, rfl⟩
  obtain ⟨W1, hW1⟩ : ∃ W1, W1 = W.alloc (.cells #[.int .i64 kind, .int .i64 x, .bool oth] 33) := ⟨_, rfl⟩
  have K1 : KQ s g t w r1 r2 A1 c1 A2 c2 A1 c1 u1 A2 c2 u2 ow x W1 := by
    rw [hW1, how]
    exact ⟨h.alloc _, ⟨_, _, heap_alloc_new W _⟩, h.lt⟩
  have hr1 : r2 ≤ 1024 := h.q2.most
  have HK1 := Lib.hid K1
  have HW1 := Lib.hid hW1
  have HOW := Lib.hid how
  have HOWL : Hid (ow < W1.heap.size) := by obtain ⟨_, _, hb⟩ := K1.ob; exact lt_of_block hb
  clear h K1 hW1 how
  rcases hk with rfl | rfl | rfl
  all_goals
    go_enter Try.func14, Try.ntmps14
    go_upto_region 5 with fail
    rw [← HW1.out, ← HOW.out]
    go_cut [9, 10] (fun p f wx => ∃ yb u', p = .pointer (some ⟨yb, 0, none⟩) ∧ f = .int .i64 (putE r2 A2 c2) ∧ wx.heap[yb]? = some (.cells #[u', .int .i64 r2, .bool c2] 29 (0, 0)) ∧ t < yb ∧ RowFrom (Aft t) wx u' (putL r2 A2 c2 x) ∧ KQ s g t w r1 r2 A1 c1 A2 c2 A1 c1 u1 A2 c2 u2 ow x wx)
    case first =>
      have ks := HK1.out.ks
      unfold KS at ks
      go_region_held3 (fun W => W.cell? ⟨g, 0, none⟩ = some (.pointer (some ⟨s + 1, 0, none⟩)) ∧ W.cell? ⟨g, 1, none⟩ = some (.pointer (some ⟨s + 2 + 1, 0, none⟩)) ∧
    W.cell? ⟨t, 0, none⟩ = some u1 ∧ W.cell? ⟨t, 1, none⟩ = some (.int .i64 r1) ∧ W.cell? ⟨t, 2, none⟩ = some (.bool c1) ∧ W.cell? ⟨t, 3, none⟩ = some u2 ∧ W.cell? ⟨t, 4, none⟩ = some (.int .i64 r2) ∧ W.cell? ⟨t, 5, none⟩ = some (.bool c2) ∧
    W.cell? ⟨ow, 1, none⟩ = some (.int .i64 x) ∧ t < W.heap.size ∧ KQ s g t w r1 r2 A1 c1 A2 c2 A1 c1 u1 A2 c2 u2 ow x W) (first | assumption | exact KQ.ks HK1.out | exact KQ.ks HK1.out.drew | exact KQ.ks (HK1.out.drew.alloc _) | exact KQ.ks (KQ.box3 (by assumption) (by assumption) rfl (by have := HK1.out.mq.lt; omega) (by have := HOWL.out; omega)).1 | exact KQ.ks (by assumption) | exact KQ.ks (KQ.alloc (by assumption) _))
        (first | (go_at_call 41; refine (rput_any (Aft t) r2 x A2 c2 u2 _ (KQ.mq (by first | exact HK1.out.drew | exact HK1.out.drew.alloc _)).v2 hr1 (by intro b hb; unfold Aft; have := HK1.out.mq.lt; simp at hb; omega)).mono ?_; rintro e w4 ⟨u4, rfl, G4, U4⟩; have K4 := KQ.below (by first | exact HK1.out.drew | exact HK1.out.drew.alloc _) U4; have HG4 := Lib.hid G4; obtain ⟨va, vc, hu4, _⟩ := G4; obtain ⟨n4, hn4⟩ : ∃ n4, n4 = (putL r2 A2 c2 x).length := ⟨_, rfl⟩; rw [← hn4] at hu4; subst hu4; clear hn4; (try (have Y4 := (U4.block W1.heap.size (by simp)).trans (heap_alloc_new W1.drew _); obtain ⟨y0, y1, y2, yf⟩ := yfacts Y4))))
      all_goals
        go_wp2_with fail
        go_meet
        case rel => first
          | exact ⟨w4.heap.size, _, rfl, rfl, heap_alloc_new w4 _, by have := K4.mq.lt; omega, HG4.out.below ((Below.refl _ w4).alloc (Nat.le_refl _) _), K4.alloc _⟩
          | exact ⟨W1.heap.size, _, rfl, rfl, (KQ.box3 K4 Y4 rfl (by have := HK1.out.mq.lt; omega) (by have := HOWL.out; omega)).2.1, by have := HK1.out.mq.lt; omega, (KQ.box3 K4 Y4 rfl (by have := HK1.out.mq.lt; omega) (by have := HOWL.out; omega)).2.2 _ _ _ HG4.out, (KQ.box3 K4 Y4 rfl (by have := HK1.out.mq.lt; omega) (by have := HOWL.out; omega)).1⟩
    case rest =>
      obtain ⟨yb, u', rfl, rfl, hyb, htyb, G, K⟩ := hcut
      obtain ⟨va, vc, hu', _⟩ := id G
      obtain ⟨n4, hn4⟩ : ∃ n4, n4 = (putL r2 A2 c2 x).length := ⟨_, rfl⟩
      rw [← hn4] at hu'
      subst hu'
      obtain ⟨y0, y1, y2, yf⟩ := yfacts hyb
      have HK := Lib.hid K
      have HG := Lib.hid G
      obtain ⟨_, _, _, _, _, t0, t1, t2, o1, tl, _⟩ := K.ks
      obtain ⟨_, _, _, _, _, _, _, _, tf⟩ := K.mq.facts
      clear hn4 K G HK1
      go_wp2_with fail
      have K5 := HK.out.row2 HG.out c2
      obtain ⟨W5, hW5⟩ : ∃ W5, W5 = ((wc.setCell ⟨t, 3, none⟩ (.slice va n4 vc)).setCell ⟨t, 4, none⟩ (.int .i64 r2)).setCell ⟨t, 5, none⟩ (.bool c2) := ⟨_, rfl⟩
      rw [← hW5] at K5 ⊢
      have HK5 := Lib.hid K5
      have ks := K5.ks
      unfold KS at ks
      clear hW5 K5 t0 t1 t2 o1 tl tf y0 y1 y2 yf hyb HK HG
      go_region_held3 (fun W => W.cell? ⟨g, 1, none⟩ = some (.pointer (some ⟨s + 2 + 1, 0, none⟩)) ∧ W.cell? ⟨ow, 1, none⟩ = some (.int .i64 x)) (first | assumption | exact ⟨ks.2.1, ks.2.2.2.2.2.2.2.2.1⟩ | exact ⟨HK5.out.drew.ks.2.1, HK5.out.drew.ks.2.2.2.2.2.2.2.2.1⟩ | exact ⟨(KQ.ks (by assumption)).2.1, (KQ.ks (by assumption)).2.2.2.2.2.2.2.2.1⟩)
        (first | (go_at_call 21; refine (put_any (s + 2) r2 A2 c2 x _ HK5.out.drew.mq.q2).mono ?_; rintro e w6 ⟨rfl, q6, T6, _⟩; have K6 := KQ.turn2 HK5.out.drew q6 T6))
      all_goals
        go_wp2
        go_ret
        exact ⟨rfl, _, _, _, _, _, _, K6.mq⟩
end
end Go.Proofs.Ytndhhpiklaffoaa.Mail
