/-
  A step of two queues and the reference's: nothing of both, and the first of both.
-/
import Derived.Test.YtndhhpiklaffoaaMailPlaysB
import Derived.Deep.CutBlock
import Derived.Deep.DeepCutAuto
import Derived.Deep.RegionHeld3
namespace Go.Proofs.Ytndhhpiklaffoaa.Mail
open Go.RowKit
open Clock (heap_set)
set_option linter.unusedVariables false
section
variable {s g t ow : Nat} {w W W' : World} {r1 r2 : Nat} {A1 A2 X1 X2 : List Int} {c1 c2 d1 d2 : Bool} {u1 u2 : Value} {kind x : Int} {oth : Bool}
set_option maxRecDepth 100000 in
set_option maxHeartbeats 4000000 in
theorem step_else (i : Int) (h : MQ s g t w r1 r2 A1 c1 A2 c2 A1 c1 u1 A2 c2 u2 W) (hk : kind < 0 ∨ 8 < kind) :
    Calls Try.prog 14 #[.slice (some ⟨g, 0, none⟩) 2 2, .slice (some ⟨t, 0, none⟩) 2 2, .int .i64 i, .agg #[.int .i64 kind, .int .i64 x, .bool oth]] W fun e W' => e = .returned (.bool true) ∧ Even s g t w r1 r2 W' := by
  have HA := Lib.hid (h.alloc (.cells #[.int .i64 kind, .int .i64 x, .bool oth] 33))
  have k0 : (kind == 0) = false := by simp; omega
  have k1 : (kind == 1) = false := by simp; omega
  have k2 : (kind == 2) = false := by simp; omega
  have k3 : (kind == 3) = false := by simp; omega
  have k4 : (kind == 4) = false := by simp; omega
  have k5 : (kind == 5) = false := by simp; omega
  have k6 : (kind == 6) = false := by simp; omega
  have k7 : (kind == 7) = false := by simp; omega
  have k8 : (kind == 8) = false := by simp; omega
  clear h hk
  go_enter Try.func14, Try.ntmps14
  go_wp2_with fail
  go_ret
  exact ⟨rfl, _, _, _, _, _, _, HA.out⟩
set_option maxRecDepth 100000 in
set_option maxHeartbeats 4000000 in
theorem step_first (i : Int) (h : MQ s g t w r1 r2 A1 c1 A2 c2 A1 c1 u1 A2 c2 u2 W) :
    Calls Try.prog 14 #[.slice (some ⟨g, 0, none⟩) 2 2, .slice (some ⟨t, 0, none⟩) 2 2, .int .i64 i, .agg #[.int .i64 7, .int .i64 x, .bool oth]] W fun e W' => e = .returned (.bool true) ∧ Even s g t w r1 r2 W' := by
  obtain ⟨ow, how⟩ : ∃ ow, ow = W.heap.size := ⟨_, rfl⟩
  obtain ⟨W1, hW1⟩ : ∃ W1, W1 = W.alloc (.cells #[.int .i64 7, .int .i64 x, .bool oth] 33) := ⟨_, rfl⟩
  have K1 : KQ s g t w r1 r2 A1 c1 A2 c2 A1 c1 u1 A2 c2 u2 ow x W1 := by
    rw [hW1, how]
    exact ⟨h.alloc _, ⟨_, _, heap_alloc_new W _⟩, h.lt⟩
  have hr1 : r1 ≤ 1024 := h.q1.most
  have HK1 := Lib.hid K1
  have HW1 := Lib.hid hW1
  have HOW := Lib.hid how
  have HOWL : Hid (ow < W1.heap.size) := by obtain ⟨_, _, hb⟩ := K1.ob; exact lt_of_block hb
  have ks := K1.ks
  rw [hW1, how] at ks
  unfold KS at ks
  obtain ⟨g0, g1, t0, t1, t2, t3, t4, t5, o1, tl, _⟩ := ks
  clear h K1 hW1 how
  go_enter Try.func14, Try.ntmps14
  go_wp2_with fail
  rw [← HW1.out, ← HOW.out]
  clear g0 g1 t0 t1 t2 t3 t4 t5 o1 tl
  have hp : PtrsAt W1 (.slice (some ⟨g, 0, none⟩) 2 2) [s, s + 2] := by
    obtain ⟨g0, g1, _⟩ := HK1.out.ks
    refine ⟨_, 2, rfl, fun _ => ⟨g, 0, rfl, fun i hi => ?_⟩⟩
    match i, hi with
    | 0, _ => exact g0
    | 1, _ => exact g1
  have HP := Lib.hid hp
  clear hp
  cases hA1 : A1 with
  | cons a A1' =>
    subst hA1
    refine (first_some _ [s, s + 2] 0 r1 a A1' c1 W1 HP.out (by simp) (by simp) (fun j hj => absurd hj (by omega)) HK1.out.mq.q1).mono ?_
    rintro e w2 ⟨rfl, q2, T2, hz2⟩
    have K2 := HK1.out.turn1 q2 T2
    obtain ⟨f0, f1, f2, f3, f4, f5, f6, K2'⟩ := K2.kt
    obtain ⟨_, _, _, _, _, _, _, _, tf⟩ := K2.mq.facts
    have HK2 := Lib.hid K2
    clear K2 q2 T2 hz2 K2'
    go_wp2_with fail
    go_loopw [153] (fun i wr => i = .int .i64 0 ∧ wr = w2) (fun _ _ => 0)
    case atStart => exact ⟨rfl, rfl⟩
    case round =>
      obtain ⟨rfl, rfl⟩ := hrel
      go_wp2_with fail
      refine (rget_cons (Aft t) r1 a A1' u1 c1 _ HK2.out.mq.v1).mono ?_
      rintro e w3 ⟨u3, rfl, G3, U3⟩
      have K3 := HK2.out.below U3
      obtain ⟨f0, f1, f2, f3, f4, f5, f6, _⟩ := K3.kt
      obtain ⟨_, _, _, _, _, _, _, _, tf⟩ := K3.mq.facts
      have HG3 := Lib.hid G3
      obtain ⟨va, vc, hu, hx9⟩ := G3
      obtain ⟨n4, hn4⟩ : ∃ n4, n4 = A1'.length := ⟨_, rfl⟩
      rw [← hn4] at hu
      subst hu
      have HK3 := Lib.hid K3
      clear K3 U3 HK2 hn4 hx9
      go_wp2_with fail
      go_ret
      exact ⟨rfl, _, _, _, _, _, _, ((HK3.out.row1 HG3.out c1).alloc _).mq⟩
  | nil =>
    subst hA1
    cases hA2 : A2 with
    | cons b A2' =>
      subst hA2
      refine (first_some _ [s, s + 2] 1 r2 b A2' c2 W1 HP.out (by simp) (by simp) (fun j hj => by obtain rfl : j = 0 := (by omega); exact ⟨r1, c1, HK1.out.mq.q1⟩) HK1.out.mq.q2).mono ?_
      rintro e w2 ⟨rfl, q2, T2, hz2⟩
      have K2 := HK1.out.turn2 q2 T2
      have HK2 := Lib.hid K2
      clear K2 q2 T2 hz2
      go_wp2_with fail
      go_loopw [153] (fun i wr => ∃ k : Nat, k ≤ 1 ∧ i = .int .i64 k ∧ KQ s g t w r1 r2 [] c1 A2' c2 [] c1 u1 (b :: A2') c2 u2 ow x wr) (fun i _ => 2 - (intOf i).toNat)
      case atStart => exact ⟨0, by omega, rfl, HK2.out⟩
      case round =>
        obtain ⟨k, hk, rfl, K⟩ := hrel
        have HK := Lib.hid K
        clear K HK2 HK1
        obtain ⟨va, vc, hv1, hx1⟩ := id HK.out.mq.v1
        clear hx1
        subst hv1
        rcases (show k = 0 ∨ k = 1 by omega) with rfl | rfl
        · skip
          obtain ⟨f0, f1, f2, f3, f4, f5, f6, _⟩ := HK.out.kt
          go_wp2_with fail
          refine (rget_nil (Aft t) r1 _ c1 _ HK.out.mq.v1).mono ?_
          rintro e w3 ⟨rfl, U3⟩
          have K3 := HK.out.below U3
          have HK3 := Lib.hid K3
          clear K3 U3 HK f0 f1 f2 f3 f4 f5 f6
          go_wp2_with fail
          go_roundw
          case rel => exact ⟨1, by omega, rfl, HK3.out.alloc _⟩
          case measure => simp [intOf]
        · obtain ⟨f0, f1, f2, f3, f4, f5, f6, _⟩ := HK.out.kt
          go_wp2_with fail
          clear f0 f1 f2 f3 f4 f5 f6
          refine (rget_cons (Aft t) r2 b A2' u2 c2 _ HK.out.mq.v2).mono ?_
          rintro e w3 ⟨u3, rfl, G3, U3⟩
          have K3 := HK.out.below U3
          obtain ⟨f0, f1, f2, f3, f4, f5, f6, _⟩ := K3.kt
          obtain ⟨_, _, _, _, _, _, _, _, tf⟩ := K3.mq.facts
          have HG3 := Lib.hid G3
          obtain ⟨va, vc, hu, hx9⟩ := G3
          obtain ⟨n4, hn4⟩ : ∃ n4, n4 = A2'.length := ⟨_, rfl⟩
          rw [← hn4] at hu
          subst hu
          have HK3 := Lib.hid K3
          clear K3 U3 HK hn4 hx9
          go_wp2_with fail
          go_ret
          exact ⟨rfl, _, _, _, _, _, _, ((HK3.out.row2 HG3.out c2).alloc _).mq⟩
    | nil =>
      subst hA2
      refine (first_none _ [s, s + 2] W1 HP.out (by simp) (fun j hj => by
        match j, hj with
        | 0, _ => exact ⟨r1, c1, HK1.out.mq.q1⟩
        | 1, _ => exact ⟨r2, c2, HK1.out.mq.q2⟩)).mono ?_
      rintro e w2 ⟨rfl, rfl⟩
      go_wp2_with fail
      go_loopw [153] (fun i wr => ∃ k : Nat, k ≤ 2 ∧ i = .int .i64 k ∧ KQ s g t w r1 r2 [] c1 [] c2 [] c1 u1 [] c2 u2 ow x wr) (fun i _ => 2 - (intOf i).toNat)
      case atStart => exact ⟨0, by omega, rfl, HK1.out⟩
      case round =>
        obtain ⟨k, hk, rfl, K⟩ := hrel
        have HK := Lib.hid K
        clear K HK1
        obtain ⟨va, vc, hv1, hx1⟩ := id HK.out.mq.v1
        obtain ⟨wa, wc, hv2, hx2⟩ := id HK.out.mq.v2
        clear hx1 hx2
        subst hv1 hv2
        rcases (show k = 0 ∨ k = 1 ∨ k = 2 by omega) with rfl | rfl | rfl
        · skip
          obtain ⟨f0, f1, f2, f3, f4, f5, f6, _⟩ := HK.out.kt
          go_wp2_with fail
          refine (rget_nil (Aft t) r1 _ c1 _ HK.out.mq.v1).mono ?_
          rintro e w3 ⟨rfl, U3⟩
          have K3 := HK.out.below U3
          have HK3 := Lib.hid K3
          clear K3 U3 HK f0 f1 f2 f3 f4 f5 f6
          go_wp2_with fail
          go_roundw
          case rel => exact ⟨1, by omega, rfl, HK3.out.alloc _⟩
          case measure => simp [intOf]
        · skip
          obtain ⟨f0, f1, f2, f3, f4, f5, f6, _⟩ := HK.out.kt
          go_wp2_with fail
          refine (rget_nil (Aft t) r2 _ c2 _ HK.out.mq.v2).mono ?_
          rintro e w3 ⟨rfl, U3⟩
          have K3 := HK.out.below U3
          have HK3 := Lib.hid K3
          clear K3 U3 HK f0 f1 f2 f3 f4 f5 f6
          go_wp2_with fail
          go_roundw
          case rel => exact ⟨2, by omega, rfl, HK3.out.alloc _⟩
          case measure => simp [intOf]
        · go_wp2_with fail
          go_ret
          exact ⟨rfl, _, _, _, _, _, _, HK.out.mq⟩
end
end Go.Proofs.Ytndhhpiklaffoaa.Mail
