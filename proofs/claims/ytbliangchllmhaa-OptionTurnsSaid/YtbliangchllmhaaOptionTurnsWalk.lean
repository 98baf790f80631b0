/-
  The walk of OptionTurns.
-/
import Derived.Test.YtbliangchllmhaaOptE
namespace Go.Proofs.Ytbliangchllmhaa.Opt
open Go.RowKit Base
set_option linter.unusedVariables false

def ix (ours : Bool) (o : Nat) : Nat := if ours then 256 + o else 768 + o
theorem upd_upd (S : Nat → Nat) (i v v' : Nat) : upd (upd S i v) i v' = upd S i v' := by
  funext j; unfold upd; split <;> rfl
theorem upd_self (S : Nat → Nat) (i v : Nat) : upd S i v i = v := by simp [upd]
theorem a0_upd (i : Nat) : upd a0 i 0 = a0 := by funext j; simp [upd, a0]
section
variable (ours : Bool) (o v : Nat) (M : Nat → Bool)
theorem want_on1 : wantS (upd a0 (ix ours o) v) (if ours then 251 else 253) o = (upd a0 (ix ours o) (wantOnS v).1, sayL ours (wantOnS v).2.1 o, (wantOnS v).2.2) := by
  cases ours <;> simp [wantS, ix, upd_upd, upd_self]
theorem want_off1 : wantS (upd a0 (ix ours o) v) (if ours then 252 else 254) o = (upd a0 (ix ours o) (wantOffS v).1, sayL ours (wantOffS v).2.1 o, (wantOffS v).2.2) := by
  cases ours <;> simp [wantS, ix, upd_upd, upd_self]
theorem got_yes1 (hv : v ≠ 0) : gotS M (upd a0 (ix ours o) v) (if ours then 253 else 251) o = (upd a0 (ix ours o) (onS true v).1, sayL ours (onS true v).2 o) := by
  have e : ∀ m, onS m v = onS true v := fun m => by cases m with
    | true => rfl
    | false => match v, hv with | 1, _ => rfl | 2, _ => rfl | 3, _ => rfl | 4, _ => rfl | 5, _ => rfl | v + 6, _ => rfl
  cases ours <;> simp [gotS, ix, upd_upd, upd_self, e]
theorem got_no1 : gotS M (upd a0 (ix ours o) v) (if ours then 254 else 252) o = (upd a0 (ix ours o) (offS v).1, sayL ours (offS v).2 o) := by
  cases ours <;> simp [gotS, ix, upd_upd, upd_self]
theorem st_ix : stOf (upd a0 (ix ours o) v) ours o = v := by
  cases ours <;> simp [stOf, ix, upd_self]
end
def nM : Nat → Bool := mayM [] []
theorem v1_true (o : Nat) : wantS a0 251 o = (upd a0 (ix true o) 3, [255, 251, (o : Int)], 0) := by
  have := want_on1 true o 0
  rw [a0_upd] at this
  exact this
theorem v2_true (o : Nat) : gotS nM (upd a0 (ix true o) 3) 253 o = (upd a0 (ix true o) 1, []) := got_yes1 true o 3 nM (by omega)
theorem v3_true (o : Nat) : wantS (upd a0 (ix true o) 1) 252 o = (upd a0 (ix true o) 2, [255, 252, (o : Int)], 0) := want_off1 true o 1
theorem v4_true (o : Nat) : gotS nM (upd a0 (ix true o) 2) 254 o = (a0, []) := by
  have := got_no1 true o 2 nM
  rw [show (offS 2).1 = 0 from rfl, a0_upd] at this
  exact this
theorem v5_true (o : Nat) : wantS (upd a0 (ix true o) 3) 252 o = (upd a0 (ix true o) 5, [], 0) := want_off1 true o 3
theorem v6_true (o : Nat) : gotS nM (upd a0 (ix true o) 5) 253 o = (upd a0 (ix true o) 2, [255, 252, (o : Int)]) := got_yes1 true o 5 nM (by omega)
theorem v1_false (o : Nat) : wantS a0 253 o = (upd a0 (ix false o) 3, [255, 253, (o : Int)], 0) := by
  have := want_on1 false o 0
  rw [a0_upd] at this
  exact this
theorem v2_false (o : Nat) : gotS nM (upd a0 (ix false o) 3) 251 o = (upd a0 (ix false o) 1, []) := got_yes1 false o 3 nM (by omega)
theorem v3_false (o : Nat) : wantS (upd a0 (ix false o) 1) 254 o = (upd a0 (ix false o) 2, [255, 254, (o : Int)], 0) := want_off1 false o 1
theorem v4_false (o : Nat) : gotS nM (upd a0 (ix false o) 2) 252 o = (a0, []) := by
  have := got_no1 false o 2 nM
  rw [show (offS 2).1 = 0 from rfl, a0_upd] at this
  exact this
theorem v5_false (o : Nat) : wantS (upd a0 (ix false o) 3) 254 o = (upd a0 (ix false o) 5, [], 0) := want_off1 false o 3
theorem v6_false (o : Nat) : gotS nM (upd a0 (ix false o) 5) 251 o = (upd a0 (ix false o) 2, [255, 254, (o : Int)]) := got_yes1 false o 5 nM (by omega)
theorem row_nil (w : World) : RowOf .u8 w (.slice none 0 0) [] := RowOf.nil _ w
theorem three_str (w : World) (a b c : Int) : (convert 22 9 (.slice (some ⟨w.heap.size, 0, none⟩) 3 3)).run Try.prog (w.alloc (.cells #[.int .u8 a, .int .u8 b, .int .u8 c] 5)) = .ok (.string (strOfNums [a, b, c])) (w.alloc (.cells #[.int .u8 a, .int .u8 b, .int .u8 c] 5)) :=
  row_str (three_at w a b c _).row
theorem st_a0 (ours : Bool) (o : Nat) : ((stOf a0 ours o : Nat) : Int) = 0 := by simp [stOf, a0]
theorem busy0 : busyB a0 = false := by decide +kernel
set_option maxRecDepth 100000 in
set_option maxHeartbeats 4000000 in
theorem optionTurns_law {w : World} (x : Int) (hx : (Lit.int .u8 x).wf = true) (ours : Bool) : Calls Try.prog 11 #[.int .u8 x, .bool ours] w fun e W' => e = .returned (.bool true) ∧ Below w.heap.size w W' := by
  have hx := u8_bd hx
  obtain ⟨o, rfl⟩ : ∃ o : Nat, x = (o : Int) := ⟨x.toNat, by omega⟩
  have ho : o < 256 := by omega
  clear hx
  cases ours with
  | true =>
    go_enter Try.func11, Try.ntmps11
    go_wp2_with (go_at_call 30; refine (alive_any _).mono ?_; rintro e w1 ⟨rfl, hb1⟩)
    refine (new_st (w := w) _ _ [] [] nM (row_nil _) (row_nil _) (by intro x h; simp at h) (by intro x h; simp at h) (by simp [maxLen]) (by simp [maxLen]) rfl hb1).mono ?_
    rintro e W1 ⟨rfl, T1, _⟩
    obtain ⟨B, hB⟩ : ∃ B, B = w1.heap.size := ⟨_, rfl⟩
    rw [← hB] at T1 ⊢
    have T1 : OA B w W1 nM a0 := T1
    clear hB hb1
    go_wp2_with fail
    with_reducible refine (want_st (w := w) 251 _ o ho rfl (upd a0 (ix true o) 3) [255, 251, (o : Int)] 0 T1 (by rw [v1_true]) (by rw [v1_true])).mono ?_
    rintro e W2 ⟨u1, rfl, R1, T2, t2⟩
    clear T1 t2
    go_wp2_with fail
    with_reducible refine (got_st (w := w) 253 _ o ho rfl (upd a0 (ix true o) 1) [] T2 (by rw [v2_true]) (by rw [v2_true])).mono ?_
    rintro e W3 ⟨u2, rfl, R2, T3, t3⟩
    have R1 := R1.turn t3 fun b hb => hb
    clear T2 t3
    go_wp2_with fail
    with_reducible refine (on_st (w := w) true _ o ho rfl true T3 (decide_eq_true (st_ix true o 1))).mono ?_
    rintro e W' ⟨rfl, rfl⟩
    go_wp2_with fail
    with_reducible refine (want_st (w := w) 252 _ o ho rfl (upd a0 (ix true o) 2) [255, 252, (o : Int)] 0 T3 (by rw [v3_true]) (by rw [v3_true])).mono ?_
    rintro e W4 ⟨u3, rfl, R3, T4, t4⟩
    have R1 := R1.turn t4 fun b hb => hb
    have R2 := R2.turn t4 fun b hb => hb
    clear T3 t4
    go_wp2_with fail
    with_reducible refine (got_st (w := w) 254 _ o ho rfl a0 [] T4 (by rw [v4_true]) (by rw [v4_true])).mono ?_
    rintro e W5 ⟨u4, rfl, R4, T5, t5⟩
    have R1 := (R1.turn t5 fun b hb => hb).row
    have R2 := (R2.turn t5 fun b hb => hb).row
    have R3 := (R3.turn t5 fun b hb => hb).row
    have R4 := R4.row
    obtain ⟨p2, c2, rfl, _⟩ := R2
    obtain ⟨p4, c4, rfl, _⟩ := R4
    have s1 := row_str R1
    have s2 := three_str W5 255 251 o
    obtain ⟨A1, hA1⟩ : ∃ A, A = W5.alloc (.cells #[.int .u8 255, .int .u8 251, .int .u8 o] 5) := ⟨_, rfl⟩
    have s3 := row_str (R3.below (by have := below_alloc W5 (.cells #[.int .u8 255, .int .u8 251, .int .u8 o] 5); exact this))
    have s4 := three_str (W5.alloc (.cells #[.int .u8 255, .int .u8 251, .int .u8 o] 5)) 255 252 o
    rw [World.size_alloc] at s4
    have U2 := (T5.below (below_alloc W5 (.cells #[.int .u8 255, .int .u8 251, .int .u8 o] 5))).below (below_alloc _ (.cells #[.int .u8 255, .int .u8 252, .int .u8 o] 5))
    obtain ⟨z1, hz1⟩ : ∃ z, z = strOfNums [255, 251, (o : Int)] := ⟨_, rfl⟩
    obtain ⟨z2, hz2⟩ : ∃ z, z = strOfNums [255, 252, (o : Int)] := ⟨_, rfl⟩
    rw [← hz1] at s1 s2
    rw [← hz2] at s3 s4
    have HZ := Lib.hid hz2
    clear hz1 hz2 R1 R3 T4 t5 hA1 A1
    go_wp2_with fail
    with_reducible refine (state_st (w := w) true _ o ho rfl 0 U2 (st_a0 true o)).mono ?_
    rintro e W' ⟨rfl, rfl⟩
    clear s1 s2 s3 s4 T5
    go_wp2_with fail
    with_reducible refine (want_st (w := w) 251 _ o ho rfl (upd a0 (ix true o) 3) [255, 251, (o : Int)] 0 U2 (by rw [v1_true]) (by rw [v1_true])).mono ?_
    rintro e W6 ⟨u5, rfl, R5, T6, t6⟩
    clear U2 t6 R5
    go_wp2_with fail
    with_reducible refine (want_st (w := w) 252 _ o ho rfl (upd a0 (ix true o) 5) [] 0 T6 (by rw [v5_true]) (by rw [v5_true])).mono ?_
    rintro e W7 ⟨u6, rfl, R6, T7, t7⟩
    clear T6 t7
    go_wp2_with fail
    with_reducible refine (got_st (w := w) 253 _ o ho rfl (upd a0 (ix true o) 2) [255, 252, (o : Int)] T7 (by rw [v6_true]) (by rw [v6_true])).mono ?_
    rintro e W8 ⟨u7, rfl, R7, T8, t8⟩
    have R6 := R6.turn t8 fun b hb => hb
    clear T7 t8
    go_wp2_with fail
    with_reducible refine (got_st (w := w) 254 _ o ho rfl a0 [] T8 (by rw [v4_true]) (by rw [v4_true])).mono ?_
    rintro e W9 ⟨u8, rfl, R8, T9, t9⟩
    have R6 := (R6.turn t9 fun b hb => hb).row
    have R7 := (R7.turn t9 fun b hb => hb).row
    have R8 := R8.row
    obtain ⟨p6, c6, rfl, _⟩ := R6
    obtain ⟨p8, c8, rfl, _⟩ := R8
    have s1 := row_str R7
    have s2 := three_str W9 255 252 o
    rw [← HZ.out] at s1 s2
    have U9 := T9.below (below_alloc W9 (.cells #[.int .u8 255, .int .u8 252, .int .u8 o] 5))
    clear T8 t9 R7
    go_wp2_with fail
    with_reducible refine (state_st (w := w) true _ o ho rfl 0 U9 (st_a0 true o)).mono ?_
    rintro e W' ⟨rfl, rfl⟩
    go_wp2_with fail
    with_reducible refine (busy_st (w := w) false U9 busy0).mono ?_
    rintro e W' ⟨rfl, rfl⟩
    go_wp2_with fail
    go_ret
    exact ⟨rfl, U9.old⟩
  | false =>
    go_enter Try.func11, Try.ntmps11
    go_wp2_with (go_at_call 30; refine (alive_any _).mono ?_; rintro e w1 ⟨rfl, hb1⟩)
    refine (new_st (w := w) _ _ [] [] nM (row_nil _) (row_nil _) (by intro x h; simp at h) (by intro x h; simp at h) (by simp [maxLen]) (by simp [maxLen]) rfl hb1).mono ?_
    rintro e W1 ⟨rfl, T1, _⟩
    obtain ⟨B, hB⟩ : ∃ B, B = w1.heap.size := ⟨_, rfl⟩
    rw [← hB] at T1 ⊢
    have T1 : OA B w W1 nM a0 := T1
    clear hB hb1
    go_wp2_with fail
    with_reducible refine (want_st (w := w) 253 _ o ho rfl (upd a0 (ix false o) 3) [255, 253, (o : Int)] 0 T1 (by rw [v1_false]) (by rw [v1_false])).mono ?_
    rintro e W2 ⟨u1, rfl, R1, T2, t2⟩
    clear T1 t2
    go_wp2_with fail
    with_reducible refine (got_st (w := w) 251 _ o ho rfl (upd a0 (ix false o) 1) [] T2 (by rw [v2_false]) (by rw [v2_false])).mono ?_
    rintro e W3 ⟨u2, rfl, R2, T3, t3⟩
    have R1 := R1.turn t3 fun b hb => hb
    clear T2 t3
    go_wp2_with fail
    with_reducible refine (on_st (w := w) false _ o ho rfl true T3 (decide_eq_true (st_ix false o 1))).mono ?_
    rintro e W' ⟨rfl, rfl⟩
    go_wp2_with fail
    with_reducible refine (want_st (w := w) 254 _ o ho rfl (upd a0 (ix false o) 2) [255, 254, (o : Int)] 0 T3 (by rw [v3_false]) (by rw [v3_false])).mono ?_
    rintro e W4 ⟨u3, rfl, R3, T4, t4⟩
    have R1 := R1.turn t4 fun b hb => hb
    have R2 := R2.turn t4 fun b hb => hb
    clear T3 t4
    go_wp2_with fail
    with_reducible refine (got_st (w := w) 252 _ o ho rfl a0 [] T4 (by rw [v4_false]) (by rw [v4_false])).mono ?_
    rintro e W5 ⟨u4, rfl, R4, T5, t5⟩
    have R1 := (R1.turn t5 fun b hb => hb).row
    have R2 := (R2.turn t5 fun b hb => hb).row
    have R3 := (R3.turn t5 fun b hb => hb).row
    have R4 := R4.row
    obtain ⟨p2, c2, rfl, _⟩ := R2
    obtain ⟨p4, c4, rfl, _⟩ := R4
    have s1 := row_str R1
    have s2 := three_str W5 255 253 o
    obtain ⟨A1, hA1⟩ : ∃ A, A = W5.alloc (.cells #[.int .u8 255, .int .u8 253, .int .u8 o] 5) := ⟨_, rfl⟩
    have s3 := row_str (R3.below (by have := below_alloc W5 (.cells #[.int .u8 255, .int .u8 253, .int .u8 o] 5); exact this))
    have s4 := three_str (W5.alloc (.cells #[.int .u8 255, .int .u8 253, .int .u8 o] 5)) 255 254 o
    rw [World.size_alloc] at s4
    have U2 := (T5.below (below_alloc W5 (.cells #[.int .u8 255, .int .u8 253, .int .u8 o] 5))).below (below_alloc _ (.cells #[.int .u8 255, .int .u8 254, .int .u8 o] 5))
    obtain ⟨z1, hz1⟩ : ∃ z, z = strOfNums [255, 253, (o : Int)] := ⟨_, rfl⟩
    obtain ⟨z2, hz2⟩ : ∃ z, z = strOfNums [255, 254, (o : Int)] := ⟨_, rfl⟩
    rw [← hz1] at s1 s2
    rw [← hz2] at s3 s4
    have HZ := Lib.hid hz2
    clear hz1 hz2 R1 R3 T4 t5 hA1 A1
    go_wp2_with fail
    with_reducible refine (state_st (w := w) false _ o ho rfl 0 U2 (st_a0 false o)).mono ?_
    rintro e W' ⟨rfl, rfl⟩
    clear s1 s2 s3 s4 T5
    go_wp2_with fail
    with_reducible refine (want_st (w := w) 253 _ o ho rfl (upd a0 (ix false o) 3) [255, 253, (o : Int)] 0 U2 (by rw [v1_false]) (by rw [v1_false])).mono ?_
    rintro e W6 ⟨u5, rfl, R5, T6, t6⟩
    clear U2 t6 R5
    go_wp2_with fail
    with_reducible refine (want_st (w := w) 254 _ o ho rfl (upd a0 (ix false o) 5) [] 0 T6 (by rw [v5_false]) (by rw [v5_false])).mono ?_
    rintro e W7 ⟨u6, rfl, R6, T7, t7⟩
    clear T6 t7
    go_wp2_with fail
    with_reducible refine (got_st (w := w) 251 _ o ho rfl (upd a0 (ix false o) 2) [255, 254, (o : Int)] T7 (by rw [v6_false]) (by rw [v6_false])).mono ?_
    rintro e W8 ⟨u7, rfl, R7, T8, t8⟩
    have R6 := R6.turn t8 fun b hb => hb
    clear T7 t8
    go_wp2_with fail
    with_reducible refine (got_st (w := w) 252 _ o ho rfl a0 [] T8 (by rw [v4_false]) (by rw [v4_false])).mono ?_
    rintro e W9 ⟨u8, rfl, R8, T9, t9⟩
    have R6 := (R6.turn t9 fun b hb => hb).row
    have R7 := (R7.turn t9 fun b hb => hb).row
    have R8 := R8.row
    obtain ⟨p6, c6, rfl, _⟩ := R6
    obtain ⟨p8, c8, rfl, _⟩ := R8
    have s1 := row_str R7
    have s2 := three_str W9 255 254 o
    rw [← HZ.out] at s1 s2
    have U9 := T9.below (below_alloc W9 (.cells #[.int .u8 255, .int .u8 254, .int .u8 o] 5))
    clear T8 t9 R7
    go_wp2_with fail
    with_reducible refine (state_st (w := w) false _ o ho rfl 0 U9 (st_a0 false o)).mono ?_
    rintro e W' ⟨rfl, rfl⟩
    go_wp2_with fail
    with_reducible refine (busy_st (w := w) false U9 busy0).mono ?_
    rintro e W' ⟨rfl, rfl⟩
    go_wp2_with fail
    go_ret
    exact ⟨rfl, U9.old⟩
end Go.Proofs.Ytbliangchllmhaa.Opt
