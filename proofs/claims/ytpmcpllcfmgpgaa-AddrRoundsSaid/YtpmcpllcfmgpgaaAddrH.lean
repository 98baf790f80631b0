/-
  The document's examples of layer 2: the helper alive returns true, and leaves all that was in memory as it was.
-/
import Derived.Test.YtpmcpllcfmgpgaaAddrG
namespace Go.Proofs.Ytpmcpllcfmgpgaa
open Go.RowKit

theorem cell_alloc_l {W : World} {a : Addr} {v : Value} (o : Obj) (h : W.cell? a = some v) : (W.alloc o).cell? a = some v := cell_kept h (World.grownBy_alloc W o none) (fun r e => by cases e)
theorem hcells : Hid (cells 24 80 = 1920) := by unfold Hid; decide
theorem hcells1 : Hid (cells 1 4 = 4) := by unfold Hid; decide
theorem hcells0 : cells 44 1 = 0 := by decide

theorem to_int {P : Program} {f : FuncId} {args : Array Value} {w : World} {k : IntKind} {x y : Int} {Q : World → Prop} (h : Calls P f args w fun e w' => e = .returned (.int k x) ∧ Q w') (e : x = y) : Calls P f args w fun e w' => e = .returned (.int k y) ∧ Q w' := by
  subst e; exact h
theorem to_bool {P : Program} {f : FuncId} {args : Array Value} {w : World} {x y : Bool} {Q : World → Prop} (h : Calls P f args w fun e w' => e = .returned (.bool x) ∧ Q w') (e : x = y) : Calls P f args w fun e w' => e = .returned (.bool y) ∧ Q w' := by
  subst e; exact h

/-- A row of two numbers that the call has just made. -/
theorem row_two (w : World) (x y : Int) : RowOf .i64 (w.alloc (.cells #[.int .i64 x, .int .i64 y] 3)) (.slice (some ⟨w.heap.size, 0, none⟩) 2 2) [x, y] :=
  ⟨_, 2, rfl, fun _ => ⟨w.heap.size, 0, rfl, fun i hi => by
    rcases i with _ | _ | i
    · simp [go_sem]
    · simp [go_sem]
    · simp at hi; omega⟩⟩

/-- Whether two pairs of bytes are the same. -/
theorem eq_pair (a b c d : Int) (w : World) : (Op.equalIn 10000 45 (.agg #[.int .u8 a, .int .u8 b]) (.agg #[.int .u8 c, .int .u8 d])).run Try.prog w = .ok (a == c && b == d) w := by
  have u3 := Try.underlying5
  have a3 := Try.isAgg5
  have z3 := Try.sizeOf5
  rw [show (10000 : Nat) = 9999 + 1 from rfl, Op.equalIn]
  simp only [Sem.run_bind, run_underlying Try.underlying45, Result.andThen_ok]
  simp only [Std.Legacy.Range.forIn_eq_forIn_range', Std.Legacy.Range.size, Nat.sub_zero, Nat.add_sub_cancel, Nat.div_one, List.range'_succ, List.range'_zero, List.forIn_cons, List.forIn_nil]
  go_simp
  by_cases h1 : a = c <;> by_cases h2 : b = d <;> simp [h1, h2]

set_option maxRecDepth 100000 in
set_option maxHeartbeats 2000000 in
theorem alive2_any (w : World) :
    Calls Try.prog 32 #[] w fun e w' => e = .returned (.bool true) ∧ Below w.heap.size w w' := by
  have eqp := eq_pair
  go_enter Try.func32, Try.ntmps32
  go_wp2_with fail
  refine (((encode_any 0 1920 _ (by omega) (by omega)).mono (R' := fun e w' => e = .returned (.tuple #[.agg #[.int .u8 64, .int .u8 64], .int .i64 0]) ∧ _) fun _ _ ⟨he, hw⟩ => ⟨he.trans (ret_enc (by decide)), hw⟩)).mono ?_
  rintro e w1 ⟨rfl, hb1⟩
  obtain ⟨ta1, tb1⟩ := box_at hb1
  have B1 := below_box hb1
  clear hb1
  go_wp2_with fail
  refine (((encode_any 1919 1920 _ (by omega) (by omega)).mono (R' := fun e w' => e = .returned (.tuple #[.agg #[.int .u8 93, .int .u8 127], .int .i64 0]) ∧ _) fun _ _ ⟨he, hw⟩ => ⟨he.trans (ret_enc (by decide)), hw⟩)).mono ?_
  rintro e w2 ⟨rfl, hb2⟩
  have ta2 := cell_later hb2 (cell_alloc_l _ ta1)
  have tb2 := cell_later hb2 (cell_alloc_l _ tb1)
  clear ta1
  clear tb1
  obtain ⟨ua2, ub2⟩ := box_at hb2
  have B2 := (B1.alloc B1.size _).trans (hb2.mono (by have := B1.size; rw [World.size_alloc]; omega))
  clear hb2 B1
  go_wp2_with fail
  refine (((encode_any 4096 5000 _ (by omega) (by omega)).mono (R' := fun e w' => e = .returned (.tuple #[.agg #[.int .u8 16, .int .u8 0], .int .i64 0]) ∧ _) fun _ _ ⟨he, hw⟩ => ⟨he.trans (ret_enc (by decide)), hw⟩)).mono ?_
  rintro e w3 ⟨rfl, hb3⟩
  have ta3 := cell_later hb3 (cell_alloc_l _ ta2)
  have tb3 := cell_later hb3 (cell_alloc_l _ tb2)
  have ua3 := cell_later hb3 (cell_alloc_l _ ua2)
  have ub3 := cell_later hb3 (cell_alloc_l _ ub2)
  clear ta2
  clear tb2
  clear ua2
  clear ub2
  obtain ⟨va3, vb3⟩ := box_at hb3
  have B3 := (B2.alloc B2.size _).trans (hb3.mono (by have := B2.size; rw [World.size_alloc]; omega))
  clear hb3 B2
  go_wp2_with fail
  refine (((encode_any 1920 1920 _ (by omega) (by omega)).mono (R' := fun e w' => e = .returned (.tuple #[.agg #[.int .u8 0, .int .u8 0], .int .i64 1]) ∧ _) fun _ _ ⟨he, hw⟩ => ⟨he.trans (ret_enc (by decide)), hw⟩)).mono ?_
  rintro e w4 ⟨rfl, hb4⟩
  have ta4 := cell_later hb4 (cell_alloc_l _ ta3)
  have tb4 := cell_later hb4 (cell_alloc_l _ tb3)
  have ua4 := cell_later hb4 (cell_alloc_l _ ua3)
  have ub4 := cell_later hb4 (cell_alloc_l _ ub3)
  have va4 := cell_later hb4 (cell_alloc_l _ va3)
  have vb4 := cell_later hb4 (cell_alloc_l _ vb3)
  clear ta3
  clear tb3
  clear ua3
  clear ub3
  clear va3
  clear vb3
  obtain ⟨xa4, xb4⟩ := box_at hb4
  have B4 := (B3.alloc B3.size _).trans (hb4.mono (by have := B3.size; rw [World.size_alloc]; omega))
  clear hb4 B3
  have pa := cell_alloc_l (.cells #[.int .u8 0, .int .u8 0] 45) ta4
  have pb := cell_alloc_l (.cells #[.int .u8 0, .int .u8 0] 45) tb4
  go_wp2_with fail
  refine (at_yes 24 80 23 79 1920 _ hcells (by decide) (by decide) (by decide) (by decide) (by decide)).mono ?_
  rintro e w5 ⟨rfl, hb5⟩
  have ta5 := cell_later hb5 (cell_alloc_l _ ta4)
  have tb5 := cell_later hb5 (cell_alloc_l _ tb4)
  have ua5 := cell_later hb5 (cell_alloc_l _ ua4)
  have ub5 := cell_later hb5 (cell_alloc_l _ ub4)
  have va5 := cell_later hb5 (cell_alloc_l _ va4)
  have vb5 := cell_later hb5 (cell_alloc_l _ vb4)
  have xa5 := cell_later hb5 (cell_alloc_l _ xa4)
  have xb5 := cell_later hb5 (cell_alloc_l _ xb4)
  clear ta4
  clear tb4
  clear ua4
  clear ub4
  clear va4
  clear vb4
  clear xa4
  clear xb4
  obtain ⟨ya5, yb5⟩ := box_at hb5
  have B5 := (B4.alloc B4.size _).trans (hb5.mono (by have := B4.size; rw [World.size_alloc]; omega))
  clear hb5 B4
  clear pa pb
  go_wp2_with fail
  refine (split_yes 24 80 1919 1920 _ hcells (by decide) (by decide)).mono ?_
  rintro e w6 ⟨rfl, hb6⟩
  have ta6 := cell_later hb6 ta5
  have tb6 := cell_later hb6 tb5
  have ua6 := cell_later hb6 ua5
  have ub6 := cell_later hb6 ub5
  have va6 := cell_later hb6 va5
  have vb6 := cell_later hb6 vb5
  have xa6 := cell_later hb6 xa5
  have xb6 := cell_later hb6 xb5
  have ya6 := cell_later hb6 ya5
  have yb6 := cell_later hb6 yb5
  clear ta5
  clear tb5
  clear ua5
  clear ub5
  clear va5
  clear vb5
  clear xa5
  clear xb5
  clear ya5
  clear yb5
  have B6 := B5.trans (hb6.mono B5.size)
  clear hb6 B5
  go_wp2_with fail
  refine (at_no_row 24 80 24 0 1920 _ hcells (by decide) (by decide)).mono ?_
  rintro e w7 ⟨rfl, hb7⟩
  have ta7 := cell_later hb7 ta6
  have tb7 := cell_later hb7 tb6
  have ua7 := cell_later hb7 ua6
  have ub7 := cell_later hb7 ub6
  have va7 := cell_later hb7 va6
  have vb7 := cell_later hb7 vb6
  have xa7 := cell_later hb7 xa6
  have xb7 := cell_later hb7 xb6
  have ya7 := cell_later hb7 ya6
  have yb7 := cell_later hb7 yb6
  clear ta6
  clear tb6
  clear ua6
  clear ub6
  clear va6
  clear vb6
  clear xa6
  clear xb6
  clear ya6
  clear yb6
  have B7 := B6.trans (hb7.mono B6.size)
  clear hb7 B6
  go_wp2_with fail
  refine (to_int (y := 1919) (decode_any 93 127 _ (by decide) (by decide) (by decide) (by decide)) (by decide)).mono ?_
  rintro e w' ⟨rfl, rfl⟩
  go_wp2_with fail
  refine (to_int (y := 4096) (decode_any 16 0 _ (by decide) (by decide) (by decide) (by decide)) (by decide)).mono ?_
  rintro e w' ⟨rfl, rfl⟩
  go_wp2_with fail
  refine (to_int (y := 97) (digit_any 33 _) (by decide)).mono ?_
  rintro e w' ⟨rfl, rfl⟩
  go_wp2_with fail
  refine (to_int (y := 240) (digit_any 48 _) (by decide)).mono ?_
  rintro e w' ⟨rfl, rfl⟩
  go_wp2_with fail
  refine (to_int (y := 1) (value_any 193 _ (by decide) (by decide)) (by decide)).mono ?_
  rintro e w' ⟨rfl, rfl⟩
  go_wp2_with fail
  refine (cells_is 24 80 1920 _ hcells.out).mono ?_
  rintro e w8 ⟨rfl, hb8⟩
  have ta8 := cell_later hb8 ta7
  have tb8 := cell_later hb8 tb7
  have ua8 := cell_later hb8 ua7
  have ub8 := cell_later hb8 ub7
  have va8 := cell_later hb8 va7
  have vb8 := cell_later hb8 vb7
  have xa8 := cell_later hb8 xa7
  have xb8 := cell_later hb8 xb7
  have ya8 := cell_later hb8 ya7
  have yb8 := cell_later hb8 yb7
  clear ta7
  clear tb7
  clear ua7
  clear ub7
  clear va7
  clear vb7
  clear xa7
  clear xb7
  clear ya7
  clear yb7
  have B8 := B7.trans (hb8.mono B7.size)
  clear hb8 B7
  go_wp2_with fail
  refine (cells_is 44 1 0 _ hcells0).mono ?_
  rintro e w9 ⟨rfl, hb9⟩
  have ta9 := cell_later hb9 ta8
  have tb9 := cell_later hb9 tb8
  have ua9 := cell_later hb9 ua8
  have ub9 := cell_later hb9 ub8
  have va9 := cell_later hb9 va8
  have vb9 := cell_later hb9 vb8
  have xa9 := cell_later hb9 xa8
  have xb9 := cell_later hb9 xb8
  have ya9 := cell_later hb9 ya8
  have yb9 := cell_later hb9 yb8
  clear ta8
  clear tb8
  clear ua8
  clear ub8
  clear va8
  clear vb8
  clear xa8
  clear xb8
  clear ya8
  clear yb8
  have B9 := B8.trans (hb9.mono B8.size)
  clear hb9 B8
  go_wp2_with fail
  refine (to_int (y := 0) (move_any 24 80 1919 1 1920 _ hcells (by decide) (by decide)) (by decide)).mono ?_
  rintro e w10 ⟨rfl, hb10⟩
  have ta10 := cell_later hb10 ta9
  have tb10 := cell_later hb10 tb9
  have ua10 := cell_later hb10 ua9
  have ub10 := cell_later hb10 ub9
  have va10 := cell_later hb10 va9
  have vb10 := cell_later hb10 vb9
  have xa10 := cell_later hb10 xa9
  have xb10 := cell_later hb10 xb9
  have ya10 := cell_later hb10 ya9
  have yb10 := cell_later hb10 yb9
  clear ta9
  clear tb9
  clear ua9
  clear ub9
  clear va9
  clear vb9
  clear xa9
  clear xb9
  clear ya9
  clear yb9
  have B10 := B9.trans (hb10.mono B9.size)
  clear hb10 B9
  go_wp2_with fail
  refine (list_any 1 4 3 1 4 9 (by decide) (by decide) _ hcells1).mono ?_
  rintro e wl ⟨v, rfl, hrow, hbl⟩
  have hr := (RowOf.of_owns hrow).below ((Below.refl _ wl).alloc (Nat.le_refl _) (.cells #[.int .i64 3, .int .i64 0] 3))
  have hr2 := row_two wl 3 0
  have BL := B10.trans (hbl.mono B10.size)
  go_wp2_with fail
  refine (to_bool (y := true) (sameInts_any _ _ _ _ _ hr hr2 (by decide)) (by decide)).mono ?_
  rintro e w' ⟨rfl, nq, rfl⟩
  go_wp2_with fail
  go_ret
  exact ⟨rfl, below_drewN (BL.alloc BL.size _) _⟩

end Go.Proofs.Ytpmcpllcfmgpgaa
