/-
  A step of two queues and the reference's: one is taken.
-/
import Derived.Test.YtndhhpiklaffoaaMailPlaysB
import Derived.Deep.CutBlock
import Derived.Deep.DeepCutAuto
import Derived.Deep.RegionHeld3
namespace Go.Proofs.Ytndhhpiklaffoaa.Mail
open Go.RowKit
open Clock (heap_set)
set_option linter.unusedVariables false
section
variable {s g t ow : Nat} {w W W' : World} {r1 r2 : Nat} {A1 A2 X1 X2 : List Int} {c1 c2 d1 d2 : Bool} {u1 u2 : Value} {kind x : Int} {oth : Bool}
set_option maxRecDepth 100000 in
set_option maxHeartbeats 4000000 in
theorem step_get1 (h : MQ s g t w r1 r2 A1 c1 A2 c2 A1 c1 u1 A2 c2 u2 W) (hk : kind = 3 ∨ kind = 4) :
    Calls Try.prog 14 #[.slice (some ⟨g, 0, none⟩) 2 2, .slice (some ⟨t, 0, none⟩) 2 2, .int .i64 0, .agg #[.int .i64 kind, .int .i64 x, .bool oth]] W fun e W' => e = .returned (.bool true) ∧ Even s g t w r1 r2 W' := by
  obtain ⟨ow, how⟩ : ∃ ow, ow = W.heap.size := ⟨_, rfl⟩
  obtain ⟨W1, hW1⟩ : ∃ W1, W1 = W.alloc (.cells #[.int .i64 kind, .int .i64 x, .bool oth] 33) := ⟨_, rfl⟩
  have K1 : KQ s g t w r1 r2 A1 c1 A2 c2 A1 c1 u1 A2 c2 u2 ow x W1 := by
    rw [hW1, how]
    exact ⟨h.alloc _, ⟨_, _, heap_alloc_new W _⟩, h.lt⟩
  have hr1 : r1 ≤ 1024 := h.q1.most
  have HK1 := Lib.hid K1
  have HW1 := Lib.hid hW1
  have HOW := Lib.hid how
  have HOWL : Hid (ow < W1.heap.size) := by obtain ⟨_, _, hb⟩ := K1.ob; exact lt_of_block hb
  have ks := K1.ks
  rw [hW1, how] at ks
  have g0 := ks.1
  clear h K1 hW1 how ks
  rcases hk with rfl | rfl
  all_goals
    go_enter Try.func14, Try.ntmps14
    go_wp2_with fail
    rw [← HW1.out, ← HOW.out]
    clear g0
    obtain ⟨hd, hhd⟩ : ∃ hd, hd = A1.headD 0 := ⟨_, rfl⟩
    obtain ⟨em, hem⟩ : ∃ em, em = (!A1.isEmpty) := ⟨_, rfl⟩
    have HHD := Lib.hid hhd
    have HEM := Lib.hid hem
    clear hhd hem
    refine (get_any s r1 A1 c1 _ HK1.out.mq.q1).mono ?_
    rintro e w2 ⟨rfl, q2, T2, _⟩
    rw [← HHD.out, ← HEM.out]
    have K2 := HK1.out.turn1 q2 T2
    have f2 := K2.ks
    unfold KS at f2
    obtain ⟨g0, g1, t0, t1, t2, t3, t4, t5, o1, tl, _⟩ := f2
    obtain ⟨_, _, _, _, _, _, _, _, tf⟩ := K2.mq.facts
    have HK2 := Lib.hid K2
    clear K2 q2 T2 HK1
    go_wp2_with fail
    refine (rget_any (Aft t) r1 A1 u1 c1 w2 HK2.out.mq.v1).mono ?_
    rintro e w3 ⟨u3, rfl, G3, U3⟩
    rw [← HHD.out, ← HEM.out]
    have K3 := HK2.out.below U3
    have f3 := K3.ks
    unfold KS at f3
    clear g0 g1 t0 t1 t2 t3 t4 t5 o1 tl tf
    obtain ⟨g0, g1, t0, t1, t2, t3, t4, t5, o1, tl, _⟩ := f3
    obtain ⟨_, _, _, _, _, _, _, _, tf⟩ := K3.mq.facts
    have HG3 := Lib.hid G3
    obtain ⟨va, vc, hu, _⟩ := G3
    obtain ⟨n4, hn4⟩ : ∃ n4, n4 = A1.tail.length := ⟨_, rfl⟩
    rw [← hn4] at hu
    subst hu
    have HK3 := Lib.hid K3
    clear K3 U3 HK2 hn4
    go_wp2_with fail
    go_ret
    exact ⟨rfl, _, _, _, _, _, _, ((HK3.out.row1 HG3.out c1).alloc _).mq⟩
set_option maxRecDepth 100000 in
set_option maxHeartbeats 4000000 in
theorem step_get2 (h : MQ s g t w r1 r2 A1 c1 A2 c2 A1 c1 u1 A2 c2 u2 W) (hk : kind = 3 ∨ kind = 4) :
    Calls Try.prog 14 #[.slice (some ⟨g, 0, none⟩) 2 2, .slice (some ⟨t, 0, none⟩) 2 2, .int .i64 1, .agg #[.int .i64 kind, .int .i64 x, .bool oth]] W fun e W' => e = .returned (.bool true) ∧ Even s g t w r1 r2 W' := by
  obtain ⟨ow, how⟩ : ∃ ow, ow = W.heap.size := ⟨_, rfl⟩
  obtain ⟨W1, hW1⟩ : ∃ W1, W1 = W.alloc (.cells #[.int .i64 kind, .int .i64 x, .bool oth] 33) := ⟨_, rfl⟩
  have K1 : KQ s g t w r1 r2 A1 c1 A2 c2 A1 c1 u1 A2 c2 u2 ow x W1 := by
    rw [hW1, how]
    exact ⟨h.alloc _, ⟨_, _, heap_alloc_new W _⟩, h.lt⟩
  have hr1 : r2 ≤ 1024 := h.q2.most
  have HK1 := Lib.hid K1
  have HW1 := Lib.hid hW1
  have HOW := Lib.hid how
  have HOWL : Hid (ow < W1.heap.size) := by obtain ⟨_, _, hb⟩ := K1.ob; exact lt_of_block hb
  have ks := K1.ks
  rw [hW1, how] at ks
  have g0 := ks.2.1
  clear h K1 hW1 how ks
  rcases hk with rfl | rfl
  all_goals
    go_enter Try.func14, Try.ntmps14
    go_wp2_with fail
    rw [← HW1.out, ← HOW.out]
    clear g0
    obtain ⟨hd, hhd⟩ : ∃ hd, hd = A2.headD 0 := ⟨_, rfl⟩
    obtain ⟨em, hem⟩ : ∃ em, em = (!A2.isEmpty) := ⟨_, rfl⟩
    have HHD := Lib.hid hhd
    have HEM := Lib.hid hem
    clear hhd hem
    refine (get_any (s + 2) r2 A2 c2 _ HK1.out.mq.q2).mono ?_
    rintro e w2 ⟨rfl, q2, T2, _⟩
    rw [← HHD.out, ← HEM.out]
    have K2 := HK1.out.turn2 q2 T2
    have f2 := K2.ks
    unfold KS at f2
    obtain ⟨g0, g1, t0, t1, t2, t3, t4, t5, o1, tl, _⟩ := f2
    obtain ⟨_, _, _, _, _, _, _, _, tf⟩ := K2.mq.facts
    have HK2 := Lib.hid K2
    clear K2 q2 T2 HK1
    go_wp2_with fail
    refine (rget_any (Aft t) r2 A2 u2 c2 w2 HK2.out.mq.v2).mono ?_
    rintro e w3 ⟨u3, rfl, G3, U3⟩
    rw [← HHD.out, ← HEM.out]
    have K3 := HK2.out.below U3
    have f3 := K3.ks
    unfold KS at f3
    clear g0 g1 t0 t1 t2 t3 t4 t5 o1 tl tf
    obtain ⟨g0, g1, t0, t1, t2, t3, t4, t5, o1, tl, _⟩ := f3
    obtain ⟨_, _, _, _, _, _, _, _, tf⟩ := K3.mq.facts
    have HG3 := Lib.hid G3
    obtain ⟨va, vc, hu, _⟩ := G3
    obtain ⟨n4, hn4⟩ : ∃ n4, n4 = A2.tail.length := ⟨_, rfl⟩
    rw [← hn4] at hu
    subst hu
    have HK3 := Lib.hid K3
    clear K3 U3 HK2 hn4
    go_wp2_with fail
    go_ret
    exact ⟨rfl, _, _, _, _, _, _, ((HK3.out.row2 HG3.out c2).alloc _).mq⟩
end
end Go.Proofs.Ytndhhpiklaffoaa.Mail
