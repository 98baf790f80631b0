/-
  A step of two queues and the reference's: as many as are asked for are taken.
-/
import Derived.Test.YtndhhpiklaffoaaMailPlaysB
import Derived.Deep.CutBlock
import Derived.Deep.DeepCutAuto
import Derived.Deep.RegionHeld3
import Derived.BigQuiet
namespace Go.Proofs.Ytndhhpiklaffoaa.Mail
open Go.RowKit
open Clock (heap_set)
set_option linter.unusedVariables false
section
variable {s g t ow : Nat} {w W W' : World} {r1 r2 : Nat} {A1 A2 X1 X2 : List Int} {c1 c2 d1 d2 : Bool} {u1 u2 : Value} {kind x : Int} {oth : Bool}
set_option maxRecDepth 100000 in
set_option maxHeartbeats 4000000 in
theorem step_take1 (h : MQ s g t w r1 r2 A1 c1 A2 c2 A1 c1 u1 A2 c2 u2 W) :
    Calls Try.prog 14 #[.slice (some ⟨g, 0, none⟩) 2 2, .slice (some ⟨t, 0, none⟩) 2 2, .int .i64 0, .agg #[.int .i64 6, .int .i64 x, .bool oth]] W fun e W' => e = .returned (.bool true) ∧ Even s g t w r1 r2 W' := by
  obtain ⟨ow, how⟩ : ∃ ow, ow = W.heap.size := ⟨_, rfl⟩
  obtain ⟨W1, hW1⟩ : ∃ W1, W1 = W.alloc (.cells #[.int .i64 6, .int .i64 x, .bool oth] 33) := ⟨_, rfl⟩
  have K1 : KQ s g t w r1 r2 A1 c1 A2 c2 A1 c1 u1 A2 c2 u2 ow x W1 := by
    rw [hW1, how]
    exact ⟨h.alloc _, ⟨_, _, heap_alloc_new W _⟩, h.lt⟩
  have hr1 : r1 ≤ 1024 := h.q1.most
  have HK1 := Lib.hid K1
  have HW1 := Lib.hid hW1
  have HOW := Lib.hid how
  have HOWL : Hid (ow < W1.heap.size) := by obtain ⟨_, _, hb⟩ := K1.ob; exact lt_of_block hb
  have ks := K1.ks
  rw [hW1, how] at ks
  unfold KS at ks
  obtain ⟨g0, g1, t0, t1, t2, t3, t4, t5, o1, tl, _⟩ := ks
  clear h K1 hW1 how
  obtain ⟨q, hq⟩ : ∃ q : Nat, (q : Int) = 1 + x % 8 := ⟨(1 + x % 8).toNat, by omega⟩
  have hand : bits BinOp.and IntKind.i64 x 7 = (q : Int) - 1 := (show bits BinOp.and IntKind.i64 x 7 = x % 8 from Clock.i64_mask x 7 3 (by decide) (by decide) (by decide)).trans (by omega)
  have hq1 : 1 ≤ q := by omega
  have hq8 : q ≤ 8 := by omega
  have hq' : 1 + ((q : Int) - 1) = q := by omega
  clear hq
  go_enter Try.func14, Try.ntmps14
  go_wp2_with fail
  rw [← HW1.out, ← HOW.out]
  clear g0 g1 t0 t1 t2 t3 t4 t5 o1 tl
  refine (taken_any s r1 A1 c1 q hq1 (by omega) _ HK1.out.mq.q1).mono ?_
  rintro e w2 ⟨got, rfl, O2, q2, T2⟩
  have K2 := HK1.out.turn1 q2 T2
  have f2 := K2.ks
  unfold KS at f2
  obtain ⟨g0, g1, t0, t1, t2, t3, t4, t5, o1, tl, _⟩ := f2
  obtain ⟨_, _, _, _, _, _, _, _, tf⟩ := K2.mq.facts
  have HK2 := Lib.hid K2
  have HO2 := Lib.hid O2
  have HK1S : Hid (t < W1.heap.size) := HK1.out.mq.lt
  have G2 := K2.mq.v1
  have HG2 := Lib.hid G2
  obtain ⟨va, vc, hu, hcap, hml, hnone, _⟩ := G2
  obtain ⟨n, hn⟩ : ∃ n, n = A1.length := ⟨_, rfl⟩
  have hn1 : n ≤ 1024 := by have := q2.fits; have := HK1.out.mq.q1.fits; omega
  rw [← hn] at hu hcap
  subst hu
  have HN := Lib.hid hn
  have HNO := Lib.hid hnone
  unfold maxLen at hml
  have hci : (n : Int) ≤ vc := by omega
  clear K2 O2 q2 T2 HK1 hn hnone
  have hmin : (n < q ∧ (n : Int) < q) ∨ n = q ∨ (q < n ∧ (q : Int) < n) := by omega
  cases va with
  | none =>
    obtain rfl : vc = 0 := HNO.out rfl
    obtain rfl : n = 0 := by omega
    have hA : A1 = [] := List.eq_nil_of_length_eq_zero HN.out.symm
    have hd : A1.drop q = [] := by rw [hA]; simp
    have htk : A1.take q = [] := by rw [hA]; simp
    have HD := Lib.hid hd
    have HTK := Lib.hid htk
    clear hmin hA hd htk
    · skip
      go_wp2_with fail
      go_quiet (fail)
      go_wp2_with fail
      have P3 := (HK2.out.mq.drewN nq).setU1 (show RowFrom (Aft t) _ (.slice none 0 0) (A1.drop q) by rw [HD.out]; exact RowFrom.nil)
      obtain ⟨W3, hW3⟩ : ∃ W3, W3 = (w2.drewN nq).setCell ⟨t, 0, none⟩ (.slice none 0 0) := ⟨_, rfl⟩
      have hrow : RowOf .i64 W3 got (A1.take q) := by rw [hW3]; exact RowOf.of_owns (Clock.own_keep HO2.out fun r hr hlt => Below.heap_setCell _ _ _ _ (by have := (Clock.own_ge HO2.out r hr).1; have := HK1S.out; show r ≠ t; omega))
      have hwant : RowOf .i64 W3 (.slice none 0 0) (A1.take q) := by rw [hW3]; exact (RowFrom.toRow (RowFrom.setCell (S := Aft t) (show RowFrom (Aft t) _ (.slice none 0 0) (A1.take q) by rw [HTK.out]; exact RowFrom.nil) t 0 _ (by unfold Aft; omega)))
      rw [← hW3] at P3 ⊢
      refine (sameInts_any _ _ _ _ W3 hrow hwant (by rw [List.length_take]; unfold maxLen; omega)).mono ?_
      rintro e w5 ⟨rfl, n5, rfl⟩
      have HP3 := Lib.hid P3
      clear P3 hrow hwant hW3
      go_wp2_with fail
      go_ret
      exact ⟨rfl, _, _, _, _, _, _, HP3.out.drewN n5⟩
  | some ad =>
    clear HNO
    rcases hmin with ⟨hm, hmi⟩ | hm | ⟨hm, hmi⟩
    · skip
      have hd : A1.drop q = [] := List.drop_of_length_le (by have := HN.out; omega)
      have htk : A1.take q = A1 := List.take_of_length_le (by have := HN.out; omega)
      have HD := Lib.hid hd
      have HTK := Lib.hid htk
      clear hd htk
      have hcc : n = vc ∨ ∃ c, vc = n + (c + 1) := by
        rcases Nat.lt_or_ge n vc with h | h
        · exact .inr ⟨vc - n - 1, by omega⟩
        · exact .inl (by omega)
      rcases hcc with rfl | ⟨c, rfl⟩
      · skip
        go_wp2_with fail
        go_quiet (fail)
        go_wp2_with fail
        have P3 := (HK2.out.mq.drewN nq).setU1 (show RowFrom (Aft t) _ (.slice (some ad) 0 0) (A1.drop q) by rw [HD.out]; exact RowFrom.none _ _ (by simp [maxLen]) (fun _ => rfl))
        obtain ⟨W3, hW3⟩ : ∃ W3, W3 = (w2.drewN nq).setCell ⟨t, 0, none⟩ (.slice (some ad) 0 0) := ⟨_, rfl⟩
        have hrow : RowOf .i64 W3 got (A1.take q) := by rw [hW3]; exact RowOf.of_owns (Clock.own_keep HO2.out fun r hr hlt => Below.heap_setCell _ _ _ _ (by have := (Clock.own_ge HO2.out r hr).1; have := HK1S.out; show r ≠ t; omega))
        have hwant : RowOf .i64 W3 (.slice (some ad) n n) (A1.take q) := by rw [hW3]; exact (RowFrom.toRow (RowFrom.setCell (S := Aft t) (show RowFrom (Aft t) _ (.slice (some ad) n n) (A1.take q) by rw [HTK.out]; exact HG2.out) t 0 _ (by unfold Aft; omega)))
        rw [← hW3] at P3 ⊢
        refine (sameInts_any _ _ _ _ W3 hrow hwant (by rw [List.length_take]; unfold maxLen; omega)).mono ?_
        rintro e w5 ⟨rfl, n5, rfl⟩
        have HP3 := Lib.hid P3
        clear P3 hrow hwant hW3
        go_wp2_with fail
        go_ret
        exact ⟨rfl, _, _, _, _, _, _, HP3.out.drewN n5⟩
      · skip
        go_wp2_with fail
        go_quiet (fail)
        go_wp2_with fail
        have P3 := (HK2.out.mq.drewN nq).setU1 (show RowFrom (Aft t) _ (.slice (some (ad.add n)) 0 (c + 1)) (A1.drop q) by rw [HD.out]; exact RowFrom.none _ _ (by unfold maxLen; omega) (fun h => by simp at h))
        obtain ⟨W3, hW3⟩ : ∃ W3, W3 = (w2.drewN nq).setCell ⟨t, 0, none⟩ (.slice (some (ad.add n)) 0 (c + 1)) := ⟨_, rfl⟩
        have hrow : RowOf .i64 W3 got (A1.take q) := by rw [hW3]; exact RowOf.of_owns (Clock.own_keep HO2.out fun r hr hlt => Below.heap_setCell _ _ _ _ (by have := (Clock.own_ge HO2.out r hr).1; have := HK1S.out; show r ≠ t; omega))
        have hwant : RowOf .i64 W3 (.slice (some ad) n (n + (c + 1))) (A1.take q) := by rw [hW3]; exact (RowFrom.toRow (RowFrom.setCell (S := Aft t) (show RowFrom (Aft t) _ (.slice (some ad) n (n + (c + 1))) (A1.take q) by rw [HTK.out]; exact HG2.out) t 0 _ (by unfold Aft; omega)))
        rw [← hW3] at P3 ⊢
        refine (sameInts_any _ _ _ _ W3 hrow hwant (by rw [List.length_take]; unfold maxLen; omega)).mono ?_
        rintro e w5 ⟨rfl, n5, rfl⟩
        have HP3 := Lib.hid P3
        clear P3 hrow hwant hW3
        go_wp2_with fail
        go_ret
        exact ⟨rfl, _, _, _, _, _, _, HP3.out.drewN n5⟩
    · subst hm
      have hd : A1.drop n = [] := List.drop_of_length_le (by have := HN.out; omega)
      have htk : A1.take n = A1 := List.take_of_length_le (by have := HN.out; omega)
      have HD := Lib.hid hd
      have HTK := Lib.hid htk
      clear hd htk
      have hcc : n = vc ∨ ∃ c, vc = n + (c + 1) := by
        rcases Nat.lt_or_ge n vc with h | h
        · exact .inr ⟨vc - n - 1, by omega⟩
        · exact .inl (by omega)
      rcases hcc with rfl | ⟨c, rfl⟩
      · skip
        go_wp2_with fail
        go_quiet (fail)
        go_wp2_with fail
        have P3 := (HK2.out.mq.drewN nq).setU1 (show RowFrom (Aft t) _ (.slice (some ad) 0 0) (A1.drop n) by rw [HD.out]; exact RowFrom.none _ _ (by simp [maxLen]) (fun _ => rfl))
        obtain ⟨W3, hW3⟩ : ∃ W3, W3 = (w2.drewN nq).setCell ⟨t, 0, none⟩ (.slice (some ad) 0 0) := ⟨_, rfl⟩
        have hrow : RowOf .i64 W3 got (A1.take n) := by rw [hW3]; exact RowOf.of_owns (Clock.own_keep HO2.out fun r hr hlt => Below.heap_setCell _ _ _ _ (by have := (Clock.own_ge HO2.out r hr).1; have := HK1S.out; show r ≠ t; omega))
        have hwant : RowOf .i64 W3 (.slice (some ad) n n) (A1.take n) := by rw [hW3]; exact (RowFrom.toRow (RowFrom.setCell (S := Aft t) (show RowFrom (Aft t) _ (.slice (some ad) n n) (A1.take n) by rw [HTK.out]; exact HG2.out) t 0 _ (by unfold Aft; omega)))
        rw [← hW3] at P3 ⊢
        refine (sameInts_any _ _ _ _ W3 hrow hwant (by rw [List.length_take]; unfold maxLen; omega)).mono ?_
        rintro e w5 ⟨rfl, n5, rfl⟩
        have HP3 := Lib.hid P3
        clear P3 hrow hwant hW3
        go_wp2_with fail
        go_ret
        exact ⟨rfl, _, _, _, _, _, _, HP3.out.drewN n5⟩
      · skip
        go_wp2_with fail
        go_quiet (fail)
        go_wp2_with fail
        have P3 := (HK2.out.mq.drewN nq).setU1 (show RowFrom (Aft t) _ (.slice (some (ad.add n)) 0 (c + 1)) (A1.drop n) by rw [HD.out]; exact RowFrom.none _ _ (by unfold maxLen; omega) (fun h => by simp at h))
        obtain ⟨W3, hW3⟩ : ∃ W3, W3 = (w2.drewN nq).setCell ⟨t, 0, none⟩ (.slice (some (ad.add n)) 0 (c + 1)) := ⟨_, rfl⟩
        have hrow : RowOf .i64 W3 got (A1.take n) := by rw [hW3]; exact RowOf.of_owns (Clock.own_keep HO2.out fun r hr hlt => Below.heap_setCell _ _ _ _ (by have := (Clock.own_ge HO2.out r hr).1; have := HK1S.out; show r ≠ t; omega))
        have hwant : RowOf .i64 W3 (.slice (some ad) n (n + (c + 1))) (A1.take n) := by rw [hW3]; exact (RowFrom.toRow (RowFrom.setCell (S := Aft t) (show RowFrom (Aft t) _ (.slice (some ad) n (n + (c + 1))) (A1.take n) by rw [HTK.out]; exact HG2.out) t 0 _ (by unfold Aft; omega)))
        rw [← hW3] at P3 ⊢
        refine (sameInts_any _ _ _ _ W3 hrow hwant (by rw [List.length_take]; unfold maxLen; omega)).mono ?_
        rintro e w5 ⟨rfl, n5, rfl⟩
        have HP3 := Lib.hid P3
        clear P3 hrow hwant hW3
        go_wp2_with fail
        go_ret
        exact ⟨rfl, _, _, _, _, _, _, HP3.out.drewN n5⟩
    · obtain ⟨d, rfl⟩ : ∃ d, n = q + (d + 1) := ⟨n - q - 1, by omega⟩
      obtain ⟨c, rfl⟩ : ∃ c, vc = q + (c + 1) := ⟨vc - q - 1, by omega⟩
      go_wp2_with fail
      go_quiet (fail)
      go_wp2_with fail
      have P3 := (HK2.out.mq.drewN nq).setU1 (show RowFrom (Aft t) _ (.slice (some (ad.add q)) (d + 1) (c + 1)) (A1.drop q) from (by have h := RowFrom.rest (k := q) (c := c) HG2.out (by omega) HN.out rfl; rwa [Nat.add_sub_cancel_left] at h))
      obtain ⟨W3, hW3⟩ : ∃ W3, W3 = (w2.drewN nq).setCell ⟨t, 0, none⟩ (.slice (some (ad.add q)) (d + 1) (c + 1)) := ⟨_, rfl⟩
      have hrow : RowOf .i64 W3 got (A1.take q) := by rw [hW3]; exact RowOf.of_owns (Clock.own_keep HO2.out fun r hr hlt => Below.heap_setCell _ _ _ _ (by have := (Clock.own_ge HO2.out r hr).1; have := HK1S.out; show r ≠ t; omega))
      have hwant : RowOf .i64 W3 (.slice (some ad) q (q + (c + 1))) (A1.take q) := by rw [hW3]; exact (RowFrom.toRow (RowFrom.setCell (S := Aft t) (show RowFrom (Aft t) _ (.slice (some ad) q (q + (c + 1))) (A1.take q) from HG2.out.first (by omega) HN.out) t 0 _ (by unfold Aft; omega)))
      rw [← hW3] at P3 ⊢
      refine (sameInts_any _ _ _ _ W3 hrow hwant (by rw [List.length_take]; unfold maxLen; omega)).mono ?_
      rintro e w5 ⟨rfl, n5, rfl⟩
      have HP3 := Lib.hid P3
      clear P3 hrow hwant hW3
      go_wp2_with fail
      go_ret
      exact ⟨rfl, _, _, _, _, _, _, HP3.out.drewN n5⟩
set_option maxRecDepth 100000 in
set_option maxHeartbeats 4000000 in
theorem step_take2 (h : MQ s g t w r1 r2 A1 c1 A2 c2 A1 c1 u1 A2 c2 u2 W) :
    Calls Try.prog 14 #[.slice (some ⟨g, 0, none⟩) 2 2, .slice (some ⟨t, 0, none⟩) 2 2, .int .i64 1, .agg #[.int .i64 6, .int .i64 x, .bool oth]] W fun e W' => e = .returned (.bool true) ∧ Even s g t w r1 r2 W' := by
  obtain ⟨ow, how⟩ : ∃ ow, ow = W.heap.size := ⟨_, rfl⟩
  obtain ⟨W1, hW1⟩ : ∃ W1, W1 = W.alloc (.cells #[.int .i64 6, .int .i64 x, .bool oth] 33) := ⟨_, rfl⟩
  have K1 : KQ s g t w r1 r2 A1 c1 A2 c2 A1 c1 u1 A2 c2 u2 ow x W1 := by
    rw [hW1, how]
    exact ⟨h.alloc _, ⟨_, _, heap_alloc_new W _⟩, h.lt⟩
  have hr1 : r2 ≤ 1024 := h.q2.most
  have HK1 := Lib.hid K1
  have HW1 := Lib.hid hW1
  have HOW := Lib.hid how
  have HOWL : Hid (ow < W1.heap.size) := by obtain ⟨_, _, hb⟩ := K1.ob; exact lt_of_block hb
  have ks := K1.ks
  rw [hW1, how] at ks
  unfold KS at ks
  obtain ⟨g0, g1, t0, t1, t2, t3, t4, t5, o1, tl, _⟩ := ks
  clear h K1 hW1 how
  obtain ⟨q, hq⟩ : ∃ q : Nat, (q : Int) = 1 + x % 8 := ⟨(1 + x % 8).toNat, by omega⟩
  have hand : bits BinOp.and IntKind.i64 x 7 = (q : Int) - 1 := (show bits BinOp.and IntKind.i64 x 7 = x % 8 from Clock.i64_mask x 7 3 (by decide) (by decide) (by decide)).trans (by omega)
  have hq1 : 1 ≤ q := by omega
  have hq8 : q ≤ 8 := by omega
  have hq' : 1 + ((q : Int) - 1) = q := by omega
  clear hq
  go_enter Try.func14, Try.ntmps14
  go_wp2_with fail
  rw [← HW1.out, ← HOW.out]
  clear g0 g1 t0 t1 t2 t3 t4 t5 o1 tl
  refine (taken_any (s + 2) r2 A2 c2 q hq1 (by omega) _ HK1.out.mq.q2).mono ?_
  rintro e w2 ⟨got, rfl, O2, q2, T2⟩
  have K2 := HK1.out.turn2 q2 T2
  have f2 := K2.ks
  unfold KS at f2
  obtain ⟨g0, g1, t0, t1, t2, t3, t4, t5, o1, tl, _⟩ := f2
  obtain ⟨_, _, _, _, _, _, _, _, tf⟩ := K2.mq.facts
  have HK2 := Lib.hid K2
  have HO2 := Lib.hid O2
  have HK1S : Hid (t < W1.heap.size) := HK1.out.mq.lt
  have G2 := K2.mq.v2
  have HG2 := Lib.hid G2
  obtain ⟨va, vc, hu, hcap, hml, hnone, _⟩ := G2
  obtain ⟨n, hn⟩ : ∃ n, n = A2.length := ⟨_, rfl⟩
  have hn1 : n ≤ 1024 := by have := q2.fits; have := HK1.out.mq.q2.fits; omega
  rw [← hn] at hu hcap
  subst hu
  have HN := Lib.hid hn
  have HNO := Lib.hid hnone
  unfold maxLen at hml
  have hci : (n : Int) ≤ vc := by omega
  clear K2 O2 q2 T2 HK1 hn hnone
  have hmin : (n < q ∧ (n : Int) < q) ∨ n = q ∨ (q < n ∧ (q : Int) < n) := by omega
  cases va with
  | none =>
    obtain rfl : vc = 0 := HNO.out rfl
    obtain rfl : n = 0 := by omega
    have hA : A2 = [] := List.eq_nil_of_length_eq_zero HN.out.symm
    have hd : A2.drop q = [] := by rw [hA]; simp
    have htk : A2.take q = [] := by rw [hA]; simp
    have HD := Lib.hid hd
    have HTK := Lib.hid htk
    clear hmin hA hd htk
    · skip
      go_wp2_with fail
      go_quiet (fail)
      go_wp2_with fail
      have P3 := (HK2.out.mq.drewN nq).setU2 (show RowFrom (Aft t) _ (.slice none 0 0) (A2.drop q) by rw [HD.out]; exact RowFrom.nil)
      obtain ⟨W3, hW3⟩ : ∃ W3, W3 = (w2.drewN nq).setCell ⟨t, 3, none⟩ (.slice none 0 0) := ⟨_, rfl⟩
      have hrow : RowOf .i64 W3 got (A2.take q) := by rw [hW3]; exact RowOf.of_owns (Clock.own_keep HO2.out fun r hr hlt => Below.heap_setCell _ _ _ _ (by have := (Clock.own_ge HO2.out r hr).1; have := HK1S.out; show r ≠ t; omega))
      have hwant : RowOf .i64 W3 (.slice none 0 0) (A2.take q) := by rw [hW3]; exact (RowFrom.toRow (RowFrom.setCell (S := Aft t) (show RowFrom (Aft t) _ (.slice none 0 0) (A2.take q) by rw [HTK.out]; exact RowFrom.nil) t 3 _ (by unfold Aft; omega)))
      rw [← hW3] at P3 ⊢
      refine (sameInts_any _ _ _ _ W3 hrow hwant (by rw [List.length_take]; unfold maxLen; omega)).mono ?_
      rintro e w5 ⟨rfl, n5, rfl⟩
      have HP3 := Lib.hid P3
      clear P3 hrow hwant hW3
      go_wp2_with fail
      go_ret
      exact ⟨rfl, _, _, _, _, _, _, HP3.out.drewN n5⟩
  | some ad =>
    clear HNO
    rcases hmin with ⟨hm, hmi⟩ | hm | ⟨hm, hmi⟩
    · skip
      have hd : A2.drop q = [] := List.drop_of_length_le (by have := HN.out; omega)
      have htk : A2.take q = A2 := List.take_of_length_le (by have := HN.out; omega)
      have HD := Lib.hid hd
      have HTK := Lib.hid htk
      clear hd htk
      have hcc : n = vc ∨ ∃ c, vc = n + (c + 1) := by
        rcases Nat.lt_or_ge n vc with h | h
        · exact .inr ⟨vc - n - 1, by omega⟩
        · exact .inl (by omega)
      rcases hcc with rfl | ⟨c, rfl⟩
      · skip
        go_wp2_with fail
        go_quiet (fail)
        go_wp2_with fail
        have P3 := (HK2.out.mq.drewN nq).setU2 (show RowFrom (Aft t) _ (.slice (some ad) 0 0) (A2.drop q) by rw [HD.out]; exact RowFrom.none _ _ (by simp [maxLen]) (fun _ => rfl))
        obtain ⟨W3, hW3⟩ : ∃ W3, W3 = (w2.drewN nq).setCell ⟨t, 3, none⟩ (.slice (some ad) 0 0) := ⟨_, rfl⟩
        have hrow : RowOf .i64 W3 got (A2.take q) := by rw [hW3]; exact RowOf.of_owns (Clock.own_keep HO2.out fun r hr hlt => Below.heap_setCell _ _ _ _ (by have := (Clock.own_ge HO2.out r hr).1; have := HK1S.out; show r ≠ t; omega))
        have hwant : RowOf .i64 W3 (.slice (some ad) n n) (A2.take q) := by rw [hW3]; exact (RowFrom.toRow (RowFrom.setCell (S := Aft t) (show RowFrom (Aft t) _ (.slice (some ad) n n) (A2.take q) by rw [HTK.out]; exact HG2.out) t 3 _ (by unfold Aft; omega)))
        rw [← hW3] at P3 ⊢
        refine (sameInts_any _ _ _ _ W3 hrow hwant (by rw [List.length_take]; unfold maxLen; omega)).mono ?_
        rintro e w5 ⟨rfl, n5, rfl⟩
        have HP3 := Lib.hid P3
        clear P3 hrow hwant hW3
        go_wp2_with fail
        go_ret
        exact ⟨rfl, _, _, _, _, _, _, HP3.out.drewN n5⟩
      · skip
        go_wp2_with fail
        go_quiet (fail)
        go_wp2_with fail
        have P3 := (HK2.out.mq.drewN nq).setU2 (show RowFrom (Aft t) _ (.slice (some (ad.add n)) 0 (c + 1)) (A2.drop q) by rw [HD.out]; exact RowFrom.none _ _ (by unfold maxLen; omega) (fun h => by simp at h))
        obtain ⟨W3, hW3⟩ : ∃ W3, W3 = (w2.drewN nq).setCell ⟨t, 3, none⟩ (.slice (some (ad.add n)) 0 (c + 1)) := ⟨_, rfl⟩
        have hrow : RowOf .i64 W3 got (A2.take q) := by rw [hW3]; exact RowOf.of_owns (Clock.own_keep HO2.out fun r hr hlt => Below.heap_setCell _ _ _ _ (by have := (Clock.own_ge HO2.out r hr).1; have := HK1S.out; show r ≠ t; omega))
        have hwant : RowOf .i64 W3 (.slice (some ad) n (n + (c + 1))) (A2.take q) := by rw [hW3]; exact (RowFrom.toRow (RowFrom.setCell (S := Aft t) (show RowFrom (Aft t) _ (.slice (some ad) n (n + (c + 1))) (A2.take q) by rw [HTK.out]; exact HG2.out) t 3 _ (by unfold Aft; omega)))
        rw [← hW3] at P3 ⊢
        refine (sameInts_any _ _ _ _ W3 hrow hwant (by rw [List.length_take]; unfold maxLen; omega)).mono ?_
        rintro e w5 ⟨rfl, n5, rfl⟩
        have HP3 := Lib.hid P3
        clear P3 hrow hwant hW3
        go_wp2_with fail
        go_ret
        exact ⟨rfl, _, _, _, _, _, _, HP3.out.drewN n5⟩
    · subst hm
      have hd : A2.drop n = [] := List.drop_of_length_le (by have := HN.out; omega)
      have htk : A2.take n = A2 := List.take_of_length_le (by have := HN.out; omega)
      have HD := Lib.hid hd
      have HTK := Lib.hid htk
      clear hd htk
      have hcc : n = vc ∨ ∃ c, vc = n + (c + 1) := by
        rcases Nat.lt_or_ge n vc with h | h
        · exact .inr ⟨vc - n - 1, by omega⟩
        · exact .inl (by omega)
      rcases hcc with rfl | ⟨c, rfl⟩
      · skip
        go_wp2_with fail
        go_quiet (fail)
        go_wp2_with fail
        have P3 := (HK2.out.mq.drewN nq).setU2 (show RowFrom (Aft t) _ (.slice (some ad) 0 0) (A2.drop n) by rw [HD.out]; exact RowFrom.none _ _ (by simp [maxLen]) (fun _ => rfl))
        obtain ⟨W3, hW3⟩ : ∃ W3, W3 = (w2.drewN nq).setCell ⟨t, 3, none⟩ (.slice (some ad) 0 0) := ⟨_, rfl⟩
        have hrow : RowOf .i64 W3 got (A2.take n) := by rw [hW3]; exact RowOf.of_owns (Clock.own_keep HO2.out fun r hr hlt => Below.heap_setCell _ _ _ _ (by have := (Clock.own_ge HO2.out r hr).1; have := HK1S.out; show r ≠ t; omega))
        have hwant : RowOf .i64 W3 (.slice (some ad) n n) (A2.take n) := by rw [hW3]; exact (RowFrom.toRow (RowFrom.setCell (S := Aft t) (show RowFrom (Aft t) _ (.slice (some ad) n n) (A2.take n) by rw [HTK.out]; exact HG2.out) t 3 _ (by unfold Aft; omega)))
        rw [← hW3] at P3 ⊢
        refine (sameInts_any _ _ _ _ W3 hrow hwant (by rw [List.length_take]; unfold maxLen; omega)).mono ?_
        rintro e w5 ⟨rfl, n5, rfl⟩
        have HP3 := Lib.hid P3
        clear P3 hrow hwant hW3
        go_wp2_with fail
        go_ret
        exact ⟨rfl, _, _, _, _, _, _, HP3.out.drewN n5⟩
      · skip
        go_wp2_with fail
        go_quiet (fail)
        go_wp2_with fail
        have P3 := (HK2.out.mq.drewN nq).setU2 (show RowFrom (Aft t) _ (.slice (some (ad.add n)) 0 (c + 1)) (A2.drop n) by rw [HD.out]; exact RowFrom.none _ _ (by unfold maxLen; omega) (fun h => by simp at h))
        obtain ⟨W3, hW3⟩ : ∃ W3, W3 = (w2.drewN nq).setCell ⟨t, 3, none⟩ (.slice (some (ad.add n)) 0 (c + 1)) := ⟨_, rfl⟩
        have hrow : RowOf .i64 W3 got (A2.take n) := by rw [hW3]; exact RowOf.of_owns (Clock.own_keep HO2.out fun r hr hlt => Below.heap_setCell _ _ _ _ (by have := (Clock.own_ge HO2.out r hr).1; have := HK1S.out; show r ≠ t; omega))
        have hwant : RowOf .i64 W3 (.slice (some ad) n (n + (c + 1))) (A2.take n) := by rw [hW3]; exact (RowFrom.toRow (RowFrom.setCell (S := Aft t) (show RowFrom (Aft t) _ (.slice (some ad) n (n + (c + 1))) (A2.take n) by rw [HTK.out]; exact HG2.out) t 3 _ (by unfold Aft; omega)))
        rw [← hW3] at P3 ⊢
        refine (sameInts_any _ _ _ _ W3 hrow hwant (by rw [List.length_take]; unfold maxLen; omega)).mono ?_
        rintro e w5 ⟨rfl, n5, rfl⟩
        have HP3 := Lib.hid P3
        clear P3 hrow hwant hW3
        go_wp2_with fail
        go_ret
        exact ⟨rfl, _, _, _, _, _, _, HP3.out.drewN n5⟩
    · obtain ⟨d, rfl⟩ : ∃ d, n = q + (d + 1) := ⟨n - q - 1, by omega⟩
      obtain ⟨c, rfl⟩ : ∃ c, vc = q + (c + 1) := ⟨vc - q - 1, by omega⟩
      go_wp2_with fail
      go_quiet (fail)
      go_wp2_with fail
      have P3 := (HK2.out.mq.drewN nq).setU2 (show RowFrom (Aft t) _ (.slice (some (ad.add q)) (d + 1) (c + 1)) (A2.drop q) from (by have h := RowFrom.rest (k := q) (c := c) HG2.out (by omega) HN.out rfl; rwa [Nat.add_sub_cancel_left] at h))
      obtain ⟨W3, hW3⟩ : ∃ W3, W3 = (w2.drewN nq).setCell ⟨t, 3, none⟩ (.slice (some (ad.add q)) (d + 1) (c + 1)) := ⟨_, rfl⟩
      have hrow : RowOf .i64 W3 got (A2.take q) := by rw [hW3]; exact RowOf.of_owns (Clock.own_keep HO2.out fun r hr hlt => Below.heap_setCell _ _ _ _ (by have := (Clock.own_ge HO2.out r hr).1; have := HK1S.out; show r ≠ t; omega))
      have hwant : RowOf .i64 W3 (.slice (some ad) q (q + (c + 1))) (A2.take q) := by rw [hW3]; exact (RowFrom.toRow (RowFrom.setCell (S := Aft t) (show RowFrom (Aft t) _ (.slice (some ad) q (q + (c + 1))) (A2.take q) from HG2.out.first (by omega) HN.out) t 3 _ (by unfold Aft; omega)))
      rw [← hW3] at P3 ⊢
      refine (sameInts_any _ _ _ _ W3 hrow hwant (by rw [List.length_take]; unfold maxLen; omega)).mono ?_
      rintro e w5 ⟨rfl, n5, rfl⟩
      have HP3 := Lib.hid P3
      clear P3 hrow hwant hW3
      go_wp2_with fail
      go_ret
      exact ⟨rfl, _, _, _, _, _, _, HP3.out.drewN n5⟩
end
end Go.Proofs.Ytndhhpiklaffoaa.Mail
