/-
  The statements' own example of attributes.
-/
import Derived.Test.YtllfieefmnjplaaAttrB2
import Derived.Test.YtllfieefmnjplaaAttrC
import Derived.Test.YtllfieefmnjplaaAttrD
namespace Go.Proofs.Ytllfieefmnjplaa.Attr
open Go.RowKit Base
set_option linter.unusedVariables false

theorem pairs4 (W : World) (a b c d e f g h : Int) : PairsAt (W.alloc (.cells #[.int .u8 a, .int .u8 b, .int .u8 c, .int .u8 d, .int .u8 e, .int .u8 f, .int .u8 g, .int .u8 h] 36)) (.slice (some ⟨W.heap.size, 0, none⟩) 4 4) [(a, b), (c, d), (e, f), (g, h)] := by
  refine ⟨_, 4, rfl, fun _ => ⟨_, 0, rfl, fun i hi => ?_⟩⟩
  have h4 : i < 4 := hi
  rcases (by omega : i = 0 ∨ i = 1 ∨ i = 2 ∨ i = 3) with rfl | rfl | rfl | rfl <;> simp [go_sem]
theorem al0 (w : World) : Calls Try.prog 25 #[.int .u8 240] w fun e w' => e = .returned (.string ⟨#[80, 78, 45]⟩) ∧ w = w' := (by have := text_any 240 w (by omega) (by omega); rw [show words 240 = ⟨#[80, 78, 45]⟩ by decide +kernel] at this; exact this)
theorem al1 (w : World) : Calls Try.prog 14 #[.int .u8 32] w fun e w' => e = .returned (.bool true) ∧ w = w' := protected_any 32 w (by omega) (by omega)
theorem al2 (w : World) : Calls Try.prog 14 #[.int .u8 16] w fun e w' => e = .returned (.bool false) ∧ w = w' := protected_any 16 w (by omega) (by omega)
theorem al3 (w : World) : Calls Try.prog 15 #[.int .u8 16] w fun e w' => e = .returned (.bool true) ∧ w = w' := numeric_any 16 w (by omega) (by omega)
theorem al4 (w : World) : Calls Try.prog 16 #[.int .u8 48] w fun e w' => e = .returned (.bool true) ∧ w = w' := skip_any 48 w (by omega) (by omega)
theorem al5 (w : World) : Calls Try.prog 16 #[.int .u8 32] w fun e w' => e = .returned (.bool false) ∧ w = w' := skip_any 32 w (by omega) (by omega)
theorem al6 (w : World) : Calls Try.prog 17 #[.int .u8 12] w fun e w' => e = .returned (.int .i64 3) ∧ w = w' := shown_any 12 w (by omega) (by omega)
theorem al7 (w : World) : Calls Try.prog 19 #[.int .u8 1] w fun e w' => e = .returned (.bool true) ∧ w = w' := modified_any 1 w (by omega) (by omega)
theorem al8 (w : World) : Calls Try.prog 20 #[.int .u8 32, .bool true] w fun e w' => e = .returned (.int .u8 33) ∧ w = w' := modify_any 32 w (by omega) (by omega) true
theorem al9 (w : World) : Calls Try.prog 22 #[.int .u8 0] w fun e w' => e = .returned (.int .u8 64) ∧ w = w' := byte_any 0 w (by omega) (by omega)
theorem al10 (w : World) : Calls Try.prog 24 #[.int .u8 64, .int .u8 0] w fun e w' => e = .returned (.bool true) ∧ w = w' := asame_any 64 w (by omega) (by omega) 0 (by omega) (by omega)
set_option maxRecDepth 100000 in
set_option maxHeartbeats 4000000 in
theorem attr_alive (w : World) : Calls Try.prog 12 #[] w fun e w' => e = .returned (.bool true) ∧ Below w.heap.size w w' := by
  have hzc := (zero_of_info info_cl).1
  unfold zcl at hzc
  go_enter Try.func12, Try.ntmps12
  go_wp2_with fail
  refine (show Calls Try.prog 29 #[.agg #[.int .u8 1, .bool false, .bool true, .int .u8 0, .int .u8 0], .slice (some ⟨w.heap.size, 0, none⟩) 4 4] _ (fun e w' => e = .returned (.agg #[.int .u8 48, .bool false, .bool true, .int .u8 242, .int .u8 244]) ∧ Below _ _ w') from dress_any ⟨1, false, true, 0, 0⟩ _ _ _ (pairs4 w 192 240 65 242 66 241 66 244) (by simp [maxLen]) (by simp)).mono ?_
  rintro e W1 ⟨rfl, b1⟩
  have hb1 := (below_alloc w (.cells #[.int .u8 192, .int .u8 240, .int .u8 65, .int .u8 242, .int .u8 66, .int .u8 241, .int .u8 66, .int .u8 244] 36)).trans (b1.mono (by rw [World.size_alloc]; omega))
  have HB1 := Lib.hid hb1
  clear b1 hb1
  have hcl := heap_alloc_new W1 (.cells (clA ⟨48, false, true, 242, 244⟩) 33)
  have hb2 := HB1.out.trans ((below_alloc W1 (.cells (clA ⟨48, false, true, 242, 244⟩) 33)).mono HB1.out.size)
  obtain ⟨W2, hW2⟩ : ∃ W2, W2 = W1.alloc (.cells (clA ⟨48, false, true, 242, 244⟩) 33) := ⟨_, rfl⟩
  obtain ⟨s, hs⟩ : ∃ s, s = W1.heap.size := ⟨_, rfl⟩
  rw [← hW2] at hcl hb2
  rw [← hs] at hcl
  unfold clA at hW2
  have HC2 := Lib.hid hcl
  have HB2 := Lib.hid hb2
  have HW2 := Lib.hid hW2.symm
  have HS := Lib.hid hs.symm
  clear hcl hb2 hW2 hs
  go_wp2_with fail
  rw [HW2.out, HS.out]
  refine (al0 _).mono ?_
  rintro e w' ⟨rfl, rfl⟩
  go_wp2_with fail
  refine (al1 _).mono ?_
  rintro e w' ⟨rfl, rfl⟩
  go_wp2_with fail
  refine (al2 _).mono ?_
  rintro e w' ⟨rfl, rfl⟩
  go_wp2_with fail
  refine (al3 _).mono ?_
  rintro e w' ⟨rfl, rfl⟩
  go_wp2_with fail
  refine (al4 _).mono ?_
  rintro e w' ⟨rfl, rfl⟩
  go_wp2_with fail
  refine (al5 _).mono ?_
  rintro e w' ⟨rfl, rfl⟩
  go_wp2_with fail
  refine (al6 _).mono ?_
  rintro e w' ⟨rfl, rfl⟩
  go_wp2_with fail
  refine (al7 _).mono ?_
  rintro e w' ⟨rfl, rfl⟩
  go_wp2_with fail
  refine (al8 _).mono ?_
  rintro e w' ⟨rfl, rfl⟩
  go_wp2_with fail
  refine (al9 _).mono ?_
  rintro e w' ⟨rfl, rfl⟩
  go_wp2_with fail
  refine (al10 _).mono ?_
  rintro e w' ⟨rfl, rfl⟩
  go_wp2_with fail
  refine (check_any 41 192 0 _).mono ?_
  rintro e W3 ⟨rfl, hb3⟩
  rw [show chkE 41 192 0 = 0 from rfl]
  have HB3 := Lib.hid (HB2.out.trans (hb3.mono HB2.out.size))
  have HC3 := Lib.hid ((hb3.block s (lt_of_block HC2.out)).trans HC2.out)
  clear hb3
  go_wp2_with fail
  refine (check_any 40 192 0 _).mono ?_
  rintro e W4 ⟨rfl, hb4⟩
  rw [show chkE 40 192 0 = 33 from rfl]
  have HB4 := Lib.hid (HB3.out.trans (hb4.mono HB3.out.size))
  have hc4 := (hb4.block s (lt_of_block HC3.out)).trans HC3.out
  clear hb4
  have c0 : W4.cell? ⟨s, 0, none⟩ = some (.int .u8 48) := by simp [World.cell?, hc4, clA]
  have c1 : W4.cell? ⟨s, 1, none⟩ = some (.bool false) := by simp [World.cell?, hc4, clA]
  have c2 : W4.cell? ⟨s, 2, none⟩ = some (.bool true) := by simp [World.cell?, hc4, clA]
  have c3 : W4.cell? ⟨s, 3, none⟩ = some (.int .u8 242) := by simp [World.cell?, hc4, clA]
  have c4 : W4.cell? ⟨s, 4, none⟩ = some (.int .u8 244) := by simp [World.cell?, hc4, clA]
  clear hc4
  go_wp2_with fail
  go_ret
  exact ⟨rfl, HB4.out⟩
end Go.Proofs.Ytllfieefmnjplaa.Attr
