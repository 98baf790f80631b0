/-
  The statements' own example of iac holds.
-/
import Derived.Test.YtimidoaafllnkaaIacAliveB
import Derived.Deep.RegionHeld3
namespace Go.Proofs.Ytimidoaafllnkaa.Iac
open Go.RowKit Base
set_option linter.unusedVariables false

set_option maxRecDepth 100000 in
set_option maxHeartbeats 4000000 in
theorem alive_any (w : World) : Calls Try.prog 10 #[] w fun e W' => e = .returned (.bool true) ∧ Below w.heap.size w W' := by
  have hz := (zero_of_info info_dec).1
  have hd0 := dec_new w
  have hb0 := below_alloc w (.cells zdec 102)
  have hs0 := World.size_alloc w (.cells zdec 102)
  obtain ⟨W0, hW0⟩ : ∃ W0, W0 = w.alloc (.cells zdec 102) := ⟨_, rfl⟩
  rw [← hW0] at hd0 hb0 hs0
  have HW0 := Lib.hid hW0.symm
  obtain ⟨b, hb⟩ : ∃ b, b = w.heap.size := ⟨_, rfl⟩
  rw [← hb] at hd0 hs0
  have HBB := Lib.hid hb.symm
  have HB0 := Lib.hid hb0
  have HS0 := Lib.hid hs0
  have hr1 := lit_own W0 #[.int .u8 255, .int .u8 253, .int .u8 25, .int .u8 1, .int .u8 255, .int .u8 255, .int .u8 255, .int .u8 239] [255, 253, 25, 1, 255, 255, 255, 239] rfl (by simp [maxLen]) 8 rfl
  have hd1 := hd0.below (below_alloc W0 (.cells #[.int .u8 255, .int .u8 253, .int .u8 25, .int .u8 1, .int .u8 255, .int .u8 255, .int .u8 255, .int .u8 239] 5))
  have hb1 := hb0.trans ((below_alloc W0 (.cells #[.int .u8 255, .int .u8 253, .int .u8 25, .int .u8 1, .int .u8 255, .int .u8 255, .int .u8 255, .int .u8 239] 5)).mono (by omega))
  have hs1 := World.size_alloc W0 (.cells #[.int .u8 255, .int .u8 253, .int .u8 25, .int .u8 1, .int .u8 255, .int .u8 255, .int .u8 255, .int .u8 239] 5)
  obtain ⟨W1, hW1⟩ : ∃ W1, W1 = W0.alloc (.cells #[.int .u8 255, .int .u8 253, .int .u8 25, .int .u8 1, .int .u8 255, .int .u8 255, .int .u8 255, .int .u8 239] 5) := ⟨_, rfl⟩
  rw [← hW1] at hr1 hd1 hb1 hs1
  rw [hs0] at hr1 hs1
  have HW1 := Lib.hid hW1.symm
  have HR1 := Lib.hid hr1
  have HD1 := Lib.hid hd1
  have HB1 := Lib.hid hb1
  have HS1 := Lib.hid hs1
  clear hW0 hb hd0 hb0 hs0 hr1 hd1 hb1 hW1 hs1
  go_enter Try.func10, Try.ntmps10
  go_upto_region 2 with fail
  rw [HW0.out, HBB.out]
  go_wp2_with fail
  rw [HS0.out, HW1.out]
  refine (feed_any b dec0 _ _ W1 HD1.out (by simp [dec0]) (HR1.out.rowIn.mono fun k hk => by omega) (by simp)).mono ?_
  rw [fd8]
  rintro e W2 ⟨v1, P1, rfl, hD2, hE2, hP2, hT2⟩
  obtain ⟨x, y, z, rfl⟩ := map3 hP2
  have hs2 : W1.heap.size = b + 2 := HS1.out
  rw [hs2] at hE2 hT2
  have A2 : AL w b v1 x y z W2 := ⟨hE2, HR1.out.keep fun g hg hl => hT2.block g hl (by omega), (show Below b w W1 from HBB.out ▸ HB1.out).trans (hT2.below (by omega) fun k hk => by omega)⟩
  have HA2 := Lib.hid A2
  have HD2 := Lib.hid hD2
  clear hP2 hE2 hT2 hD2 A2 hs2
  go_wp2_with fail
  refine (show Calls Try.prog 63 #[.pointer (some ⟨b, 0, none⟩)] W2 fun e w' => e = .returned (.bool false) ∧ W2 = w' from open_any HD2.out).mono ?_
  rintro e W' ⟨rfl, rfl⟩
  have hr3 := lit_own W2 #[.int .u8 255] [255] rfl (by simp [maxLen]) 1 rfl
  have hd3 := HD2.out.below (below_alloc W2 (.cells #[.int .u8 255] 5))
  have ha3 := HA2.out.alloc (.cells #[.int .u8 255] 5)
  have hl3 := HA2.out.lt
  obtain ⟨W3, hW3⟩ : ∃ W3, W3 = W2.alloc (.cells #[.int .u8 255] 5) := ⟨_, rfl⟩
  rw [← hW3] at hr3 hd3 ha3
  have HW3 := Lib.hid hW3.symm
  have HR3 := Lib.hid hr3
  have HD3 := Lib.hid hd3
  have HA3 := Lib.hid ha3
  clear hr3 hd3 ha3 hW3 HA2 HD2
  go_wp2_with fail
  rw [HW3.out]
  refine (feed_any b _ _ _ W3 HD3.out (by simp) (HR3.out.rowIn.mono fun k hk => by omega) (by simp)).mono ?_
  rw [fd1]
  rintro e W4 ⟨v4, P4, rfl, hD4, hE4, hP4, hT4⟩
  have ha4 := HA3.out.turn hT4 (by have := HA3.out.lt; omega)
  obtain ⟨va4, vc4, rfl⟩ := hE4.form
  have HA4 := Lib.hid ha4
  have HD4 := Lib.hid hD4
  clear hD4 hE4 hP4 hT4 HA3 HD3 HR3 HW3 hl3
  obtain ⟨g, cap, rfl, _⟩ := HA4.out.es.three
  have hq4 : AQ w b g cap x y z W4.drew := ⟨⟨ha4.es.keep fun _ _ _ => rfl, ha4.lit.keep fun _ _ _ => rfl, ha4.old.drew⟩, HD4.out.kept rfl⟩
  have hs4 := hq4.s
  have HQ4 := Lib.hid hq4
  have HS4 := Lib.hid hs4
  clear ha4 hs4 hq4
  go_upto_region 6 with fail
  change Code.wp _ (Code.region 6 al6 true) _ _ _
  refine wp_region_held_drew (S := (fun W => W.cell? ⟨g, 0, none⟩ = some (.int .i64 4) ∧ W.cell? ⟨g, 1, none⟩ = some (.int .u8 253) ∧ W.cell? ⟨g, 2, none⟩ = some (.int .u8 25) ∧ W.cell? ⟨g, 4, none⟩ = some (.int .i64 1) ∧ W.cell? ⟨g, 7, none⟩ = some y ∧ W.cell? ⟨g, 8, none⟩ = some (.int .i64 2) ∧ (convert 24 9 y).run Try.prog W = .ok (.string ⟨#[1, 255]⟩) W ∧ (convert 24 9 (.slice (some ⟨b + 1, 0, none⟩) 8 8)).run Try.prog W = .ok (.string ⟨#[255, 253, 25, 1, 255, 255, 255, 239]⟩) W ∧ AQ w b g cap x y z W)) (by kernel_rfl) (HS4.out) (fun hHeld => ?_)
  change wpAnyH _ .any al6 _ _ 93 al6_l0 _ _
  refine wpAnyH_take (i := 0) (oi := { dst := some 11, op := Op.move (Operand.tmp 3), type := 22, pos := "law.go:26", after := #[], guard := none }) (v := ?_) (listed := al6_l0) al6_g0 al6_nosel al6_f0 al6_r0 (fun _ _ _ h => h) (Or.inl ⟨by rfl, ?_⟩) (by assumption) ?_
  rotate_left
  focus (intro w hSw; (try dsimp only at hSw); go_simp; try (with_reducible rfl))
  try simp only [Act.put, List.setIfInBounds_toArray, List.set_cons_zero, List.set_cons_succ]
  refine wpAnyH_take (i := 1) (oi := { dst := some 12, op := Op.call { callee := Callee.builtin Builtin.len, args := #[Operand.tmp 11], argTypes := #[22] }, type := 3, pos := "law.go:26", after := #[{ on := 0, ground := Ground.data }], guard := none }) (v := ?_) (listed := al6_l1) al6_g1 al6_nosel al6_f1 al6_r1 (fun _ _ _ h => h) (Or.inl ⟨by rfl, ?_⟩) (by assumption) ?_
  rotate_left
  focus (intro w hSw; (try dsimp only at hSw); go_simp; try (with_reducible rfl))
  try simp only [Act.put, List.setIfInBounds_toArray, List.set_cons_zero, List.set_cons_succ]
  refine wpAnyH_take (i := 2) (oi := { dst := some 13, op := Op.binOp BinOp.eql 3 (Operand.tmp 12) (Operand.const (Value.int IntKind.i64 3)) 3, type := 4, pos := "law.go:26", after := #[{ on := 1, ground := Ground.data }], guard := none }) (v := ?_) (listed := al6_l2) al6_g2 al6_nosel al6_f2 al6_r2 (fun _ _ _ h => h) (Or.inl ⟨by rfl, ?_⟩) (by assumption) ?_
  rotate_left
  focus (intro w hSw; (try dsimp only at hSw); go_simp; try (with_reducible rfl))
  try simp only [Act.put, List.setIfInBounds_toArray, List.set_cons_zero, List.set_cons_succ]
  refine wpAnyH_take (i := 3) (oi := { dst := some 14, op := Op.move (Operand.tmp 13), type := 4, pos := "law.go:26", after := #[{ on := 2, ground := Ground.data }], guard := none }) (v := ?_) (listed := al6_l3) al6_g3 al6_nosel al6_f3 al6_r3 (fun _ _ _ h => h) (Or.inl ⟨by rfl, ?_⟩) (by assumption) ?_
  rotate_left
  focus (intro w hSw; (try dsimp only at hSw); go_simp; try (with_reducible rfl))
  try simp only [Act.put, List.setIfInBounds_toArray, List.set_cons_zero, List.set_cons_succ]
  refine wpAnyH_take (i := 4) (oi := { dst := some 15, op := Op.move (Operand.tmp 3), type := 22, pos := "law.go:26", after := #[{ on := 3, ground := Ground.guard }], guard := some (3, true) }) (v := ?_) (listed := al6_l4) al6_g4 al6_nosel al6_f4 al6_r4 (fun _ _ _ h => h) (Or.inl ⟨by rfl, ?_⟩) (by assumption) ?_
  rotate_left
  focus (intro w hSw; (try dsimp only at hSw); go_simp; try (with_reducible rfl))
  try simp only [Act.put, List.setIfInBounds_toArray, List.set_cons_zero, List.set_cons_succ]
  refine wpAnyH_take (i := 5) (oi := { dst := some 16, op := Op.indexAddr 22 (Operand.tmp 15) (Operand.const (Value.int IntKind.i64 0)), type := 0, pos := "law.go:26", after := #[{ on := 4, ground := Ground.data }, { on := 3, ground := Ground.guard }], guard := some (3, true) }) (v := ?_) (listed := al6_l5) al6_g5 al6_nosel al6_f5 al6_r5 (fun _ _ _ h => h) (Or.inl ⟨by rfl, ?_⟩) (by assumption) ?_
  rotate_left
  focus (intro w hSw; (try dsimp only at hSw); go_simp; try (with_reducible rfl))
  try simp only [Act.put, List.setIfInBounds_toArray, List.set_cons_zero, List.set_cons_succ]
  refine wpAnyH_take (i := 6) (oi := { dst := some 17, op := Op.fieldAddr 26 (Operand.tmp 16) 0, type := 0, pos := "law.go:26", after := #[{ on := 5, ground := Ground.data }, { on := 3, ground := Ground.guard }], guard := some (3, true) }) (v := ?_) (listed := al6_l6) al6_g6 al6_nosel al6_f6 al6_r6 (fun _ _ _ h => h) (Or.inl ⟨by rfl, ?_⟩) (by assumption) ?_
  rotate_left
  focus (intro w hSw; (try dsimp only at hSw); go_simp; try (with_reducible rfl))
  try simp only [Act.put, List.setIfInBounds_toArray, List.set_cons_zero, List.set_cons_succ]
  refine wpAnyH_take (i := 7) (oi := { dst := some 18, op := Op.load 3 (Operand.tmp 17), type := 3, pos := "law.go:26", after := #[{ on := 6, ground := Ground.data }, { on := 3, ground := Ground.guard }], guard := some (3, true) }) (v := ?_) (listed := al6_l7) al6_g7 al6_nosel al6_f7 al6_r7 (fun _ _ _ h => h) (Or.inl ⟨by rfl, ?_⟩) (by assumption) ?_
  rotate_left
  focus (intro w hSw; (try dsimp only at hSw); go_simp; try (with_reducible rfl))
  try simp only [Act.put, List.setIfInBounds_toArray, List.set_cons_zero, List.set_cons_succ]
  refine wpAnyH_take (i := 8) (oi := { dst := some 19, op := Op.binOp BinOp.eql 3 (Operand.tmp 18) (Operand.const (Value.int IntKind.i64 4)) 3, type := 4, pos := "law.go:26", after := #[{ on := 7, ground := Ground.data }, { on := 3, ground := Ground.guard }], guard := some (3, true) }) (v := ?_) (listed := al6_l8) al6_g8 al6_nosel al6_f8 al6_r8 (fun _ _ _ h => h) (Or.inl ⟨by rfl, ?_⟩) (by assumption) ?_
  rotate_left
  focus (intro w hSw; (try dsimp only at hSw); go_simp; try (with_reducible rfl))
  try simp only [Act.put, List.setIfInBounds_toArray, List.set_cons_zero, List.set_cons_succ]
  refine wpAnyH_take (i := 9) (oi := { dst := some 20, op := Op.pick (Operand.tmp 14) (Operand.tmp 19) (Operand.const (Value.bool false)), type := 4, pos := "law.go:26", after := #[{ on := 3, ground := Ground.data }, { on := 8, ground := Ground.data }], guard := none }) (v := ?_) (listed := al6_l9) al6_g9 al6_nosel al6_f9 al6_r9 (fun _ _ _ h => h) (Or.inl ⟨by rfl, ?_⟩) (by assumption) ?_
  rotate_left
  focus (intro w hSw; (try dsimp only at hSw); go_simp; try (with_reducible rfl))
  try simp only [Act.put, List.setIfInBounds_toArray, List.set_cons_zero, List.set_cons_succ]
  refine wpAnyH_take (i := 10) (oi := { dst := some 21, op := Op.move (Operand.tmp 20), type := 4, pos := "law.go:26", after := #[{ on := 9, ground := Ground.data }, { on := 3, ground := Ground.chain }], guard := none }) (v := ?_) (listed := al6_l10) al6_g10 al6_nosel al6_f10 al6_r10 (fun _ _ _ h => h) (Or.inl ⟨by rfl, ?_⟩) (by assumption) ?_
  rotate_left
  focus (intro w hSw; (try dsimp only at hSw); go_simp; try (with_reducible rfl))
  try simp only [Act.put, List.setIfInBounds_toArray, List.set_cons_zero, List.set_cons_succ]
  refine wpAnyH_take (i := 11) (oi := { dst := some 22, op := Op.move (Operand.tmp 3), type := 22, pos := "law.go:26", after := #[{ on := 10, ground := Ground.guard }], guard := some (10, true) }) (v := ?_) (listed := al6_l11) al6_g11 al6_nosel al6_f11 al6_r11 (fun _ _ _ h => h) (Or.inl ⟨by rfl, ?_⟩) (by assumption) ?_
  rotate_left
  focus (intro w hSw; (try dsimp only at hSw); go_simp; try (with_reducible rfl))
  try simp only [Act.put, List.setIfInBounds_toArray, List.set_cons_zero, List.set_cons_succ]
  refine wpAnyH_take (i := 12) (oi := { dst := some 23, op := Op.indexAddr 22 (Operand.tmp 22) (Operand.const (Value.int IntKind.i64 0)), type := 0, pos := "law.go:26", after := #[{ on := 11, ground := Ground.data }, { on := 10, ground := Ground.guard }], guard := some (10, true) }) (v := ?_) (listed := al6_l12) al6_g12 al6_nosel al6_f12 al6_r12 (fun _ _ _ h => h) (Or.inl ⟨by rfl, ?_⟩) (by assumption) ?_
  rotate_left
  focus (intro w hSw; (try dsimp only at hSw); go_simp; try (with_reducible rfl))
  try simp only [Act.put, List.setIfInBounds_toArray, List.set_cons_zero, List.set_cons_succ]
  refine wpAnyH_take (i := 13) (oi := { dst := some 24, op := Op.fieldAddr 26 (Operand.tmp 23) 1, type := 0, pos := "law.go:26", after := #[{ on := 12, ground := Ground.data }, { on := 10, ground := Ground.guard }], guard := some (10, true) }) (v := ?_) (listed := al6_l13) al6_g13 al6_nosel al6_f13 al6_r13 (fun _ _ _ h => h) (Or.inl ⟨by rfl, ?_⟩) (by assumption) ?_
  rotate_left
  focus (intro w hSw; (try dsimp only at hSw); go_simp; try (with_reducible rfl))
  try simp only [Act.put, List.setIfInBounds_toArray, List.set_cons_zero, List.set_cons_succ]
  refine wpAnyH_take (i := 14) (oi := { dst := some 25, op := Op.load 5 (Operand.tmp 24), type := 5, pos := "law.go:26", after := #[{ on := 13, ground := Ground.data }, { on := 10, ground := Ground.guard }], guard := some (10, true) }) (v := ?_) (listed := al6_l14) al6_g14 al6_nosel al6_f14 al6_r14 (fun _ _ _ h => h) (Or.inl ⟨by rfl, ?_⟩) (by assumption) ?_
  rotate_left
  focus (intro w hSw; (try dsimp only at hSw); go_simp; try (with_reducible rfl))
  try simp only [Act.put, List.setIfInBounds_toArray, List.set_cons_zero, List.set_cons_succ]
  refine wpAnyH_take (i := 15) (oi := { dst := some 26, op := Op.binOp BinOp.eql 5 (Operand.tmp 25) (Operand.const (Value.int IntKind.u8 253)) 5, type := 4, pos := "law.go:26", after := #[{ on := 14, ground := Ground.data }, { on := 10, ground := Ground.guard }], guard := some (10, true) }) (v := ?_) (listed := al6_l15) al6_g15 al6_nosel al6_f15 al6_r15 (fun _ _ _ h => h) (Or.inl ⟨by rfl, ?_⟩) (by assumption) ?_
  rotate_left
  focus (intro w hSw; (try dsimp only at hSw); go_simp; try (with_reducible rfl))
  try simp only [Act.put, List.setIfInBounds_toArray, List.set_cons_zero, List.set_cons_succ]
  refine wpAnyH_take (i := 16) (oi := { dst := some 27, op := Op.pick (Operand.tmp 21) (Operand.tmp 26) (Operand.const (Value.bool false)), type := 4, pos := "law.go:26", after := #[{ on := 10, ground := Ground.data }, { on := 15, ground := Ground.data }], guard := none }) (v := ?_) (listed := al6_l16) al6_g16 al6_nosel al6_f16 al6_r16 (fun _ _ _ h => h) (Or.inl ⟨by rfl, ?_⟩) (by assumption) ?_
  rotate_left
  focus (intro w hSw; (try dsimp only at hSw); go_simp; try (with_reducible rfl))
  try simp only [Act.put, List.setIfInBounds_toArray, List.set_cons_zero, List.set_cons_succ]
  refine wpAnyH_take (i := 17) (oi := { dst := some 28, op := Op.move (Operand.tmp 27), type := 4, pos := "law.go:26", after := #[{ on := 16, ground := Ground.data }, { on := 10, ground := Ground.chain }], guard := none }) (v := ?_) (listed := al6_l17) al6_g17 al6_nosel al6_f17 al6_r17 (fun _ _ _ h => h) (Or.inl ⟨by rfl, ?_⟩) (by assumption) ?_
  rotate_left
  focus (intro w hSw; (try dsimp only at hSw); go_simp; try (with_reducible rfl))
  try simp only [Act.put, List.setIfInBounds_toArray, List.set_cons_zero, List.set_cons_succ]
  refine wpAnyH_take (i := 18) (oi := { dst := some 29, op := Op.move (Operand.tmp 3), type := 22, pos := "law.go:26", after := #[{ on := 17, ground := Ground.guard }], guard := some (17, true) }) (v := ?_) (listed := al6_l18) al6_g18 al6_nosel al6_f18 al6_r18 (fun _ _ _ h => h) (Or.inl ⟨by rfl, ?_⟩) (by assumption) ?_
  rotate_left
  focus (intro w hSw; (try dsimp only at hSw); go_simp; try (with_reducible rfl))
  try simp only [Act.put, List.setIfInBounds_toArray, List.set_cons_zero, List.set_cons_succ]
  refine wpAnyH_take (i := 19) (oi := { dst := some 30, op := Op.indexAddr 22 (Operand.tmp 29) (Operand.const (Value.int IntKind.i64 0)), type := 0, pos := "law.go:26", after := #[{ on := 18, ground := Ground.data }, { on := 17, ground := Ground.guard }], guard := some (17, true) }) (v := ?_) (listed := al6_l19) al6_g19 al6_nosel al6_f19 al6_r19 (fun _ _ _ h => h) (Or.inl ⟨by rfl, ?_⟩) (by assumption) ?_
  rotate_left
  focus (intro w hSw; (try dsimp only at hSw); go_simp; try (with_reducible rfl))
  try simp only [Act.put, List.setIfInBounds_toArray, List.set_cons_zero, List.set_cons_succ]
  refine wpAnyH_take (i := 20) (oi := { dst := some 31, op := Op.fieldAddr 26 (Operand.tmp 30) 2, type := 0, pos := "law.go:26", after := #[{ on := 19, ground := Ground.data }, { on := 17, ground := Ground.guard }], guard := some (17, true) }) (v := ?_) (listed := al6_l20) al6_g20 al6_nosel al6_f20 al6_r20 (fun _ _ _ h => h) (Or.inl ⟨by rfl, ?_⟩) (by assumption) ?_
  rotate_left
  focus (intro w hSw; (try dsimp only at hSw); go_simp; try (with_reducible rfl))
  try simp only [Act.put, List.setIfInBounds_toArray, List.set_cons_zero, List.set_cons_succ]
  refine wpAnyH_take (i := 21) (oi := { dst := some 32, op := Op.load 5 (Operand.tmp 31), type := 5, pos := "law.go:26", after := #[{ on := 20, ground := Ground.data }, { on := 17, ground := Ground.guard }], guard := some (17, true) }) (v := ?_) (listed := al6_l21) al6_g21 al6_nosel al6_f21 al6_r21 (fun _ _ _ h => h) (Or.inl ⟨by rfl, ?_⟩) (by assumption) ?_
  rotate_left
  focus (intro w hSw; (try dsimp only at hSw); go_simp; try (with_reducible rfl))
  try simp only [Act.put, List.setIfInBounds_toArray, List.set_cons_zero, List.set_cons_succ]
  refine wpAnyH_take (i := 22) (oi := { dst := some 33, op := Op.binOp BinOp.eql 5 (Operand.tmp 32) (Operand.const (Value.int IntKind.u8 25)) 5, type := 4, pos := "law.go:26", after := #[{ on := 21, ground := Ground.data }, { on := 17, ground := Ground.guard }], guard := some (17, true) }) (v := ?_) (listed := al6_l22) al6_g22 al6_nosel al6_f22 al6_r22 (fun _ _ _ h => h) (Or.inl ⟨by rfl, ?_⟩) (by assumption) ?_
  rotate_left
  focus (intro w hSw; (try dsimp only at hSw); go_simp; try (with_reducible rfl))
  try simp only [Act.put, List.setIfInBounds_toArray, List.set_cons_zero, List.set_cons_succ]
  refine wpAnyH_take (i := 23) (oi := { dst := some 34, op := Op.pick (Operand.tmp 28) (Operand.tmp 33) (Operand.const (Value.bool false)), type := 4, pos := "law.go:26", after := #[{ on := 17, ground := Ground.data }, { on := 22, ground := Ground.data }], guard := none }) (v := ?_) (listed := al6_l23) al6_g23 al6_nosel al6_f23 al6_r23 (fun _ _ _ h => h) (Or.inl ⟨by rfl, ?_⟩) (by assumption) ?_
  rotate_left
  focus (intro w hSw; (try dsimp only at hSw); go_simp; try (with_reducible rfl))
  try simp only [Act.put, List.setIfInBounds_toArray, List.set_cons_zero, List.set_cons_succ]
  refine wpAnyH_take (i := 24) (oi := { dst := some 35, op := Op.move (Operand.tmp 34), type := 4, pos := "law.go:26", after := #[{ on := 23, ground := Ground.data }, { on := 17, ground := Ground.chain }], guard := none }) (v := ?_) (listed := al6_l24) al6_g24 al6_nosel al6_f24 al6_r24 (fun _ _ _ h => h) (Or.inl ⟨by rfl, ?_⟩) (by assumption) ?_
  rotate_left
  focus (intro w hSw; (try dsimp only at hSw); go_simp; try (with_reducible rfl))
  try simp only [Act.put, List.setIfInBounds_toArray, List.set_cons_zero, List.set_cons_succ]
  refine wpAnyH_take (i := 25) (oi := { dst := some 36, op := Op.move (Operand.tmp 3), type := 22, pos := "law.go:26", after := #[{ on := 24, ground := Ground.guard }], guard := some (24, true) }) (v := ?_) (listed := al6_l25) al6_g25 al6_nosel al6_f25 al6_r25 (fun _ _ _ h => h) (Or.inl ⟨by rfl, ?_⟩) (by assumption) ?_
  rotate_left
  focus (intro w hSw; (try dsimp only at hSw); go_simp; try (with_reducible rfl))
  try simp only [Act.put, List.setIfInBounds_toArray, List.set_cons_zero, List.set_cons_succ]
  refine wpAnyH_take (i := 26) (oi := { dst := some 37, op := Op.indexAddr 22 (Operand.tmp 36) (Operand.const (Value.int IntKind.i64 1)), type := 0, pos := "law.go:26", after := #[{ on := 25, ground := Ground.data }, { on := 24, ground := Ground.guard }], guard := some (24, true) }) (v := ?_) (listed := al6_l26) al6_g26 al6_nosel al6_f26 al6_r26 (fun _ _ _ h => h) (Or.inl ⟨by rfl, ?_⟩) (by assumption) ?_
  rotate_left
  focus (intro w hSw; (try dsimp only at hSw); go_simp; try (with_reducible rfl))
  try simp only [Act.put, List.setIfInBounds_toArray, List.set_cons_zero, List.set_cons_succ]
  refine wpAnyH_take (i := 27) (oi := { dst := some 38, op := Op.fieldAddr 26 (Operand.tmp 37) 0, type := 0, pos := "law.go:26", after := #[{ on := 26, ground := Ground.data }, { on := 24, ground := Ground.guard }], guard := some (24, true) }) (v := ?_) (listed := al6_l27) al6_g27 al6_nosel al6_f27 al6_r27 (fun _ _ _ h => h) (Or.inl ⟨by rfl, ?_⟩) (by assumption) ?_
  rotate_left
  focus (intro w hSw; (try dsimp only at hSw); go_simp; try (with_reducible rfl))
  try simp only [Act.put, List.setIfInBounds_toArray, List.set_cons_zero, List.set_cons_succ]
  refine wpAnyH_take (i := 28) (oi := { dst := some 39, op := Op.load 3 (Operand.tmp 38), type := 3, pos := "law.go:26", after := #[{ on := 27, ground := Ground.data }, { on := 24, ground := Ground.guard }], guard := some (24, true) }) (v := ?_) (listed := al6_l28) al6_g28 al6_nosel al6_f28 al6_r28 (fun _ _ _ h => h) (Or.inl ⟨by rfl, ?_⟩) (by assumption) ?_
  rotate_left
  focus (intro w hSw; (try dsimp only at hSw); go_simp; try (with_reducible rfl))
  try simp only [Act.put, List.setIfInBounds_toArray, List.set_cons_zero, List.set_cons_succ]
  refine wpAnyH_take (i := 29) (oi := { dst := some 40, op := Op.binOp BinOp.eql 3 (Operand.tmp 39) (Operand.const (Value.int IntKind.i64 1)) 3, type := 4, pos := "law.go:26", after := #[{ on := 28, ground := Ground.data }, { on := 24, ground := Ground.guard }], guard := some (24, true) }) (v := ?_) (listed := al6_l29) al6_g29 al6_nosel al6_f29 al6_r29 (fun _ _ _ h => h) (Or.inl ⟨by rfl, ?_⟩) (by assumption) ?_
  rotate_left
  focus (intro w hSw; (try dsimp only at hSw); go_simp; try (with_reducible rfl))
  try simp only [Act.put, List.setIfInBounds_toArray, List.set_cons_zero, List.set_cons_succ]
  refine wpAnyH_take (i := 30) (oi := { dst := some 41, op := Op.pick (Operand.tmp 35) (Operand.tmp 40) (Operand.const (Value.bool false)), type := 4, pos := "law.go:26", after := #[{ on := 24, ground := Ground.data }, { on := 29, ground := Ground.data }], guard := none }) (v := ?_) (listed := al6_l30) al6_g30 al6_nosel al6_f30 al6_r30 (fun _ _ _ h => h) (Or.inl ⟨by rfl, ?_⟩) (by assumption) ?_
  rotate_left
  focus (intro w hSw; (try dsimp only at hSw); go_simp; try (with_reducible rfl))
  try simp only [Act.put, List.setIfInBounds_toArray, List.set_cons_zero, List.set_cons_succ]
  refine wpAnyH_take (i := 31) (oi := { dst := some 42, op := Op.move (Operand.tmp 41), type := 4, pos := "law.go:26", after := #[{ on := 30, ground := Ground.data }, { on := 24, ground := Ground.chain }], guard := none }) (v := ?_) (listed := al6_l31) al6_g31 al6_nosel al6_f31 al6_r31 (fun _ _ _ h => h) (Or.inl ⟨by rfl, ?_⟩) (by assumption) ?_
  rotate_left
  focus (intro w hSw; (try dsimp only at hSw); go_simp; try (with_reducible rfl))
  try simp only [Act.put, List.setIfInBounds_toArray, List.set_cons_zero, List.set_cons_succ]
  refine wpAnyH_take (i := 32) (oi := { dst := some 43, op := Op.move (Operand.tmp 3), type := 22, pos := "law.go:26", after := #[{ on := 31, ground := Ground.guard }], guard := some (31, true) }) (v := ?_) (listed := al6_l32) al6_g32 al6_nosel al6_f32 al6_r32 (fun _ _ _ h => h) (Or.inl ⟨by rfl, ?_⟩) (by assumption) ?_
  rotate_left
  focus (intro w hSw; (try dsimp only at hSw); go_simp; try (with_reducible rfl))
  try simp only [Act.put, List.setIfInBounds_toArray, List.set_cons_zero, List.set_cons_succ]
  refine wpAnyH_take (i := 33) (oi := { dst := some 44, op := Op.indexAddr 22 (Operand.tmp 43) (Operand.const (Value.int IntKind.i64 1)), type := 0, pos := "law.go:26", after := #[{ on := 32, ground := Ground.data }, { on := 31, ground := Ground.guard }], guard := some (31, true) }) (v := ?_) (listed := al6_l33) al6_g33 al6_nosel al6_f33 al6_r33 (fun _ _ _ h => h) (Or.inl ⟨by rfl, ?_⟩) (by assumption) ?_
  rotate_left
  focus (intro w hSw; (try dsimp only at hSw); go_simp; try (with_reducible rfl))
  try simp only [Act.put, List.setIfInBounds_toArray, List.set_cons_zero, List.set_cons_succ]
  refine wpAnyH_take (i := 34) (oi := { dst := some 45, op := Op.fieldAddr 26 (Operand.tmp 44) 3, type := 0, pos := "law.go:26", after := #[{ on := 33, ground := Ground.data }, { on := 31, ground := Ground.guard }], guard := some (31, true) }) (v := ?_) (listed := al6_l34) al6_g34 al6_nosel al6_f34 al6_r34 (fun _ _ _ h => h) (Or.inl ⟨by rfl, ?_⟩) (by assumption) ?_
  rotate_left
  focus (intro w hSw; (try dsimp only at hSw); go_simp; try (with_reducible rfl))
  try simp only [Act.put, List.setIfInBounds_toArray, List.set_cons_zero, List.set_cons_succ]
  refine wpAnyH_take (i := 35) (oi := { dst := some 46, op := Op.load 24 (Operand.tmp 45), type := 24, pos := "law.go:26", after := #[{ on := 34, ground := Ground.data }, { on := 31, ground := Ground.guard }], guard := some (31, true) }) (v := ?_) (listed := al6_l35) al6_g35 al6_nosel al6_f35 al6_r35 (fun _ _ _ h => h) (Or.inl ⟨by rfl, ?_⟩) (by assumption) ?_
  rotate_left
  focus (intro w hSw; (try dsimp only at hSw); go_simp; try (with_reducible rfl))
  try simp only [Act.put, List.setIfInBounds_toArray, List.set_cons_zero, List.set_cons_succ]
  refine wpAnyH_take (i := 36) (oi := { dst := some 47, op := Op.convert 24 9 (Operand.tmp 46), type := 9, pos := "law.go:26", after := #[{ on := 35, ground := Ground.data }, { on := 31, ground := Ground.guard }], guard := some (31, true) }) (v := ?_) (listed := al6_l36) al6_g36 al6_nosel al6_f36 al6_r36 (fun _ _ _ h => h) (Or.inl ⟨by rfl, ?_⟩) (by assumption) ?_
  rotate_left
  focus (intro w hSw; (try dsimp only at hSw); go_simp; try (with_reducible rfl))
  try simp only [Act.put, List.setIfInBounds_toArray, List.set_cons_zero, List.set_cons_succ]
  refine wpAnyH_take (i := 37) (oi := { dst := some 48, op := Op.binOp BinOp.eql 9 (Operand.tmp 47) (Operand.const (Value.string { data := #[1, 255] })) 9, type := 4, pos := "law.go:26", after := #[{ on := 36, ground := Ground.data }, { on := 31, ground := Ground.guard }], guard := some (31, true) }) (v := ?_) (listed := al6_l37) al6_g37 al6_nosel al6_f37 al6_r37 (fun _ _ _ h => h) (Or.inl ⟨by rfl, ?_⟩) (by assumption) ?_
  rotate_left
  focus (intro w hSw; (try dsimp only at hSw); go_simp; try (with_reducible rfl))
  try simp only [Act.put, List.setIfInBounds_toArray, List.set_cons_zero, List.set_cons_succ]
  refine wpAnyH_take (i := 38) (oi := { dst := some 49, op := Op.pick (Operand.tmp 42) (Operand.tmp 48) (Operand.const (Value.bool false)), type := 4, pos := "law.go:26", after := #[{ on := 31, ground := Ground.data }, { on := 37, ground := Ground.data }], guard := none }) (v := ?_) (listed := al6_l38) al6_g38 al6_nosel al6_f38 al6_r38 (fun _ _ _ h => h) (Or.inl ⟨by rfl, ?_⟩) (by assumption) ?_
  rotate_left
  focus (intro w hSw; (try dsimp only at hSw); go_simp; try (with_reducible rfl))
  try simp only [Act.put, List.setIfInBounds_toArray, List.set_cons_zero, List.set_cons_succ]
  refine wpAnyH_take (i := 39) (oi := { dst := some 50, op := Op.move (Operand.tmp 49), type := 4, pos := "law.go:26", after := #[{ on := 38, ground := Ground.data }, { on := 31, ground := Ground.chain }], guard := none }) (v := ?_) (listed := al6_l39) al6_g39 al6_nosel al6_f39 al6_r39 (fun _ _ _ h => h) (Or.inl ⟨by rfl, ?_⟩) (by assumption) ?_
  rotate_left
  focus (intro w hSw; (try dsimp only at hSw); go_simp; try (with_reducible rfl))
  try simp only [Act.put, List.setIfInBounds_toArray, List.set_cons_zero, List.set_cons_succ]
  refine wpAnyH_take (i := 40) (oi := { dst := some 51, op := Op.move (Operand.tmp 3), type := 22, pos := "law.go:26", after := #[{ on := 39, ground := Ground.guard }], guard := some (39, true) }) (v := ?_) (listed := al6_l40) al6_g40 al6_nosel al6_f40 al6_r40 (fun _ _ _ h => h) (Or.inl ⟨by rfl, ?_⟩) (by assumption) ?_
  rotate_left
  focus (intro w hSw; (try dsimp only at hSw); go_simp; try (with_reducible rfl))
  try simp only [Act.put, List.setIfInBounds_toArray, List.set_cons_zero, List.set_cons_succ]
  refine wpAnyH_take (i := 41) (oi := { dst := some 52, op := Op.indexAddr 22 (Operand.tmp 51) (Operand.const (Value.int IntKind.i64 2)), type := 0, pos := "law.go:26", after := #[{ on := 40, ground := Ground.data }, { on := 39, ground := Ground.guard }], guard := some (39, true) }) (v := ?_) (listed := al6_l41) al6_g41 al6_nosel al6_f41 al6_r41 (fun _ _ _ h => h) (Or.inl ⟨by rfl, ?_⟩) (by assumption) ?_
  rotate_left
  focus (intro w hSw; (try dsimp only at hSw); go_simp; try (with_reducible rfl))
  try simp only [Act.put, List.setIfInBounds_toArray, List.set_cons_zero, List.set_cons_succ]
  refine wpAnyH_take (i := 42) (oi := { dst := some 53, op := Op.fieldAddr 26 (Operand.tmp 52) 0, type := 0, pos := "law.go:26", after := #[{ on := 41, ground := Ground.data }, { on := 39, ground := Ground.guard }], guard := some (39, true) }) (v := ?_) (listed := al6_l42) al6_g42 al6_nosel al6_f42 al6_r42 (fun _ _ _ h => h) (Or.inl ⟨by rfl, ?_⟩) (by assumption) ?_
  rotate_left
  focus (intro w hSw; (try dsimp only at hSw); go_simp; try (with_reducible rfl))
  try simp only [Act.put, List.setIfInBounds_toArray, List.set_cons_zero, List.set_cons_succ]
  refine wpAnyH_take (i := 43) (oi := { dst := some 54, op := Op.load 3 (Operand.tmp 53), type := 3, pos := "law.go:26", after := #[{ on := 42, ground := Ground.data }, { on := 39, ground := Ground.guard }], guard := some (39, true) }) (v := ?_) (listed := al6_l43) al6_g43 al6_nosel al6_f43 al6_r43 (fun _ _ _ h => h) (Or.inl ⟨by rfl, ?_⟩) (by assumption) ?_
  rotate_left
  focus (intro w hSw; (try dsimp only at hSw); go_simp; try (with_reducible rfl))
  try simp only [Act.put, List.setIfInBounds_toArray, List.set_cons_zero, List.set_cons_succ]
  refine wpAnyH_take (i := 44) (oi := { dst := some 55, op := Op.binOp BinOp.eql 3 (Operand.tmp 54) (Operand.const (Value.int IntKind.i64 2)) 3, type := 4, pos := "law.go:26", after := #[{ on := 43, ground := Ground.data }, { on := 39, ground := Ground.guard }], guard := some (39, true) }) (v := ?_) (listed := al6_l44) al6_g44 al6_nosel al6_f44 al6_r44 (fun _ _ _ h => h) (Or.inl ⟨by rfl, ?_⟩) (by assumption) ?_
  rotate_left
  focus (intro w hSw; (try dsimp only at hSw); go_simp; try (with_reducible rfl))
  try simp only [Act.put, List.setIfInBounds_toArray, List.set_cons_zero, List.set_cons_succ]
  refine wpAnyH_take (i := 45) (oi := { dst := some 56, op := Op.pick (Operand.tmp 50) (Operand.tmp 55) (Operand.const (Value.bool false)), type := 4, pos := "law.go:26", after := #[{ on := 39, ground := Ground.data }, { on := 44, ground := Ground.data }], guard := none }) (v := ?_) (listed := al6_l45) al6_g45 al6_nosel al6_f45 al6_r45 (fun _ _ _ h => h) (Or.inl ⟨by rfl, ?_⟩) (by assumption) ?_
  rotate_left
  focus (intro w hSw; (try dsimp only at hSw); go_simp; try (with_reducible rfl))
  try simp only [Act.put, List.setIfInBounds_toArray, List.set_cons_zero, List.set_cons_succ]
  refine wpAnyH_take (i := 46) (oi := { dst := some 57, op := Op.move (Operand.tmp 56), type := 4, pos := "law.go:26", after := #[{ on := 45, ground := Ground.data }, { on := 39, ground := Ground.chain }], guard := none }) (v := ?_) (listed := al6_l46) al6_g46 al6_nosel al6_f46 al6_r46 (fun _ _ _ h => h) (Or.inl ⟨by rfl, ?_⟩) (by assumption) ?_
  rotate_left
  focus (intro w hSw; (try dsimp only at hSw); go_simp; try (with_reducible rfl))
  try simp only [Act.put, List.setIfInBounds_toArray, List.set_cons_zero, List.set_cons_succ]
  refine wpAnyH_take (i := 47) (oi := { dst := some 58, op := Op.move (Operand.tmp 4), type := 4, pos := "law.go:26", after := #[{ on := 46, ground := Ground.guard }], guard := some (46, true) }) (v := ?_) (listed := al6_l47) al6_g47 al6_nosel al6_f47 al6_r47 (fun _ _ _ h => h) (Or.inl ⟨by rfl, ?_⟩) (by assumption) ?_
  rotate_left
  focus (intro w hSw; (try dsimp only at hSw); go_simp; try (with_reducible rfl))
  try simp only [Act.put, List.setIfInBounds_toArray, List.set_cons_zero, List.set_cons_succ]
  refine wpAnyH_take (i := 48) (oi := { dst := some 59, op := Op.unOp UnOp.not 4 (Operand.tmp 58), type := 4, pos := "law.go:26", after := #[{ on := 47, ground := Ground.data }, { on := 46, ground := Ground.guard }], guard := some (46, true) }) (v := ?_) (listed := al6_l48) al6_g48 al6_nosel al6_f48 al6_r48 (fun _ _ _ h => h) (Or.inl ⟨by rfl, ?_⟩) (by assumption) ?_
  rotate_left
  focus (intro w hSw; (try dsimp only at hSw); go_simp; try (with_reducible rfl))
  try simp only [Act.put, List.setIfInBounds_toArray, List.set_cons_zero, List.set_cons_succ]
  refine wpAnyH_take (i := 49) (oi := { dst := some 60, op := Op.pick (Operand.tmp 57) (Operand.tmp 59) (Operand.const (Value.bool false)), type := 4, pos := "law.go:26", after := #[{ on := 46, ground := Ground.data }, { on := 48, ground := Ground.data }], guard := none }) (v := ?_) (listed := al6_l49) al6_g49 al6_nosel al6_f49 al6_r49 (fun _ _ _ h => h) (Or.inl ⟨by rfl, ?_⟩) (by assumption) ?_
  rotate_left
  focus (intro w hSw; (try dsimp only at hSw); go_simp; try (with_reducible rfl))
  try simp only [Act.put, List.setIfInBounds_toArray, List.set_cons_zero, List.set_cons_succ]
  refine wpAnyH_take (i := 50) (oi := { dst := some 61, op := Op.move (Operand.tmp 60), type := 4, pos := "law.go:26", after := #[{ on := 49, ground := Ground.data }, { on := 46, ground := Ground.chain }], guard := none }) (v := ?_) (listed := al6_l50) al6_g50 al6_nosel al6_f50 al6_r50 (fun _ _ _ h => h) (Or.inl ⟨by rfl, ?_⟩) (by assumption) ?_
  rotate_left
  focus (intro w hSw; (try dsimp only at hSw); go_simp; try (with_reducible rfl))
  try simp only [Act.put, List.setIfInBounds_toArray, List.set_cons_zero, List.set_cons_succ]
  refine wpAnyH_ready (rs := [51]) (listed := al6_l51) al6_r51 (by simp) (AllReadyH.cons (o := { dst := some 62, op := Op.call { callee := Callee.value (Operand.func 63), args := #[Operand.tmp 1], argTypes := #[102] }, type := 4, pos := "law.go:26", after := #[{ on := 50, ground := Ground.chain }, { on := 50, ground := Ground.guard }], guard := some (50, true) }) al6_g51 (fun K hK => ?_) AllReadyH.nil)
  rw [if_pos (by rfl)]
  go_simp
  (go_at_call 63; refine (open_true HQ4.out.dec).mono ?_; rintro e w5 ⟨rfl, rfl⟩)
  go_wp2_with fail
  refine hK.out _ _ (AQ.s HQ4.out) (fun hHeld => ?_)
  clear hK K
  try simp only [Act.put, List.setIfInBounds_toArray, List.set_cons_zero, List.set_cons_succ]
  refine wpAnyH_take (i := 52) (oi := { dst := some 63, op := Op.pick (Operand.tmp 61) (Operand.tmp 62) (Operand.const (Value.bool false)), type := 4, pos := "law.go:26", after := #[{ on := 50, ground := Ground.data }, { on := 51, ground := Ground.data }], guard := none }) (v := ?_) (listed := al6_l52) al6_g52 al6_nosel al6_f52 al6_r52 (fun _ _ _ h => h) (Or.inl ⟨by rfl, ?_⟩) (by assumption) ?_
  rotate_left
  focus (intro w hSw; (try dsimp only at hSw); go_simp; try (with_reducible rfl))
  try simp only [Act.put, List.setIfInBounds_toArray, List.set_cons_zero, List.set_cons_succ]
  refine wpAnyH_take (i := 53) (oi := { dst := some 64, op := Op.move (Operand.tmp 63), type := 4, pos := "law.go:26", after := #[{ on := 52, ground := Ground.data }, { on := 51, ground := Ground.chain }], guard := none }) (v := ?_) (listed := al6_l53) al6_g53 al6_nosel al6_f53 al6_r53 (fun _ _ _ h => h) (Or.inl ⟨by rfl, ?_⟩) (by assumption) ?_
  rotate_left
  focus (intro w hSw; (try dsimp only at hSw); go_simp; try (with_reducible rfl))
  try simp only [Act.put, List.setIfInBounds_toArray, List.set_cons_zero, List.set_cons_succ]
  refine wpAnyH_take (i := 54) (oi := { dst := some 65, op := Op.move (Operand.tmp 3), type := 22, pos := "law.go:26", after := #[{ on := 53, ground := Ground.guard }], guard := some (53, true) }) (v := ?_) (listed := al6_l54) al6_g54 al6_nosel al6_f54 al6_r54 (fun _ _ _ h => h) (Or.inl ⟨by rfl, ?_⟩) (by assumption) ?_
  rotate_left
  focus (intro w hSw; (try dsimp only at hSw); go_simp; try (with_reducible rfl))
  try simp only [Act.put, List.setIfInBounds_toArray, List.set_cons_zero, List.set_cons_succ]
  refine wpAnyH_take (i := 57) (oi := { dst := some 68, op := Op.move (Operand.tmp 2), type := 24, pos := "law.go:26", after := #[{ on := 53, ground := Ground.guard }], guard := some (53, true) }) (v := ?_) (listed := al6_l55) al6_g57 al6_nosel al6_f55 al6_r55 (fun _ _ _ h => h) (Or.inl ⟨by rfl, ?_⟩) (by assumption) ?_
  rotate_left
  focus (intro w hSw; (try dsimp only at hSw); go_simp; try (with_reducible rfl))
  try simp only [Act.put, List.setIfInBounds_toArray, List.set_cons_zero, List.set_cons_succ]
  refine wpAnyH_take (i := 58) (oi := { dst := some 69, op := Op.convert 24 9 (Operand.tmp 68), type := 9, pos := "law.go:26", after := #[{ on := 57, ground := Ground.data }, { on := 53, ground := Ground.guard }], guard := some (53, true) }) (v := ?_) (listed := al6_l56) al6_g58 al6_nosel al6_f56 al6_r56 (fun _ _ _ h => h) (Or.inl ⟨by rfl, ?_⟩) (by assumption) ?_
  rotate_left
  focus (intro w hSw; (try dsimp only at hSw); go_simp; try (with_reducible rfl))
  try simp only [Act.put, List.setIfInBounds_toArray, List.set_cons_zero, List.set_cons_succ]
  refine wpAnyH_ready (rs := [55]) (listed := al6_l57) al6_r57 (by simp) (AllReadyH.cons (o := { dst := some 66, op := Op.call { callee := Callee.value (Operand.func 17), args := #[Operand.tmp 65], argTypes := #[22] }, type := 24, pos := "law.go:26", after := #[{ on := 54, ground := Ground.data }, { on := 53, ground := Ground.chain }, { on := 53, ground := Ground.guard }], guard := some (53, true) }) al6_g55 (fun K hK => ?_) AllReadyH.nil)
  rw [if_pos (by rfl)]
  go_simp
  (go_at_call 17; refine (write_any _ [⟨4, 253, 25, []⟩, ⟨1, 0, 0, [1, 255]⟩, ⟨2, 0, 0, []⟩] _ HQ4.out.al.es.evsAt (by simp) (by rw [wr3]; simp) (by simp [maxLen])).mono ?_; rw [wr3]; rintro e w5 ⟨p5, rfl, R5, b5⟩; have HQ5 := Lib.hid (HQ4.out.below b5); have s5 := own_str R5 #[255, 253, 25, 1, 255, 255, 255, 239] (by with_unfolding_all rfl); clear R5 b5)
  go_wp2_with fail
  refine hK.out _ _ (AQ.s HQ5.out) (fun hHeld => ?_)
  clear hK K
  try simp only [Act.put, List.setIfInBounds_toArray, List.set_cons_zero, List.set_cons_succ]
  refine wpAnyH_ready (rs := [56]) (listed := al6_l58) al6_r58 (by simp) (AllReadyH.cons (o := { dst := some 67, op := Op.convert 24 9 (Operand.tmp 66), type := 9, pos := "law.go:26", after := #[{ on := 55, ground := Ground.data }, { on := 53, ground := Ground.guard }], guard := some (53, true) }) al6_g56 (fun K hK => ?_) AllReadyH.nil)
  rw [if_pos (by rfl)]
  go_simp
  refine hK.out _ _ (AQ.s HQ5.out) (fun hHeld => ?_)
  clear hK K
  try simp only [Act.put, List.setIfInBounds_toArray, List.set_cons_zero, List.set_cons_succ]
  refine wpAnyH_take (i := 59) (oi := { dst := some 70, op := Op.binOp BinOp.eql 9 (Operand.tmp 67) (Operand.tmp 69) 9, type := 4, pos := "law.go:26", after := #[{ on := 56, ground := Ground.data }, { on := 58, ground := Ground.data }, { on := 53, ground := Ground.guard }], guard := some (53, true) }) (v := ?_) (listed := al6_l59) al6_g59 al6_nosel al6_f59 al6_r59 (fun _ _ _ h => h) (Or.inl ⟨by rfl, ?_⟩) (by assumption) ?_
  rotate_left
  focus (intro w hSw; (try dsimp only at hSw); go_simp; try (with_reducible rfl))
  try simp only [Act.put, List.setIfInBounds_toArray, List.set_cons_zero, List.set_cons_succ]
  refine wpAnyH_take (i := 60) (oi := { dst := some 71, op := Op.pick (Operand.tmp 64) (Operand.tmp 70) (Operand.const (Value.bool false)), type := 4, pos := "law.go:26", after := #[{ on := 53, ground := Ground.data }, { on := 59, ground := Ground.data }], guard := none }) (v := ?_) (listed := al6_l60) al6_g60 al6_nosel al6_f60 al6_r60 (fun _ _ _ h => h) (Or.inl ⟨by rfl, ?_⟩) (by assumption) ?_
  rotate_left
  focus (intro w hSw; (try dsimp only at hSw); go_simp; try (with_reducible rfl))
  try simp only [Act.put, List.setIfInBounds_toArray, List.set_cons_zero, List.set_cons_succ]
  refine wpAnyH_take (i := 61) (oi := { dst := some 72, op := Op.move (Operand.tmp 71), type := 4, pos := "law.go:26", after := #[{ on := 60, ground := Ground.data }, { on := 55, ground := Ground.chain }], guard := none }) (v := ?_) (listed := al6_l61) al6_g61 al6_nosel al6_f61 al6_r61 (fun _ _ _ h => h) (Or.inl ⟨by rfl, ?_⟩) (by assumption) ?_
  rotate_left
  focus (intro w hSw; (try dsimp only at hSw); go_simp; try (with_reducible rfl))
  try simp only [Act.put, List.setIfInBounds_toArray, List.set_cons_zero, List.set_cons_succ]
  refine wpAnyH_ready (rs := [62]) (listed := al6_l62) al6_r62 (by simp) (AllReadyH.cons (o := { dst := some 73, op := Op.buildSlice 24 1 #[(0, Operand.const (Value.int IntKind.u8 0))], type := 24, pos := "law.go:26", after := #[{ on := 61, ground := Ground.guard }], guard := some (61, true) }) al6_g62 (fun K hK => ?_) AllReadyH.nil)
  rw [if_pos (by rfl)]
  go_simp
  refine hK.out _ _ (AQ.s (AQ.alloc HQ5.out _)) (fun hHeld => ?_)
  clear hK K
  try simp only [Act.put, List.setIfInBounds_toArray, List.set_cons_zero, List.set_cons_succ]
  refine wpAnyH_ready (rs := [63]) (listed := al6_l63) al6_r63 (by simp) (AllReadyH.cons (o := { dst := some 74, op := Op.call { callee := Callee.value (Operand.func 14), args := #[Operand.const (Value.int IntKind.u8 24), Operand.tmp 73], argTypes := #[5, 24] }, type := 24, pos := "law.go:26", after := #[{ on := 62, ground := Ground.data }, { on := 61, ground := Ground.chain }, { on := 61, ground := Ground.guard }], guard := some (61, true) }) al6_g63 (fun K hK => ?_) AllReadyH.nil)
  rw [if_pos (by rfl)]
  go_simp
  (go_at_call 14; refine (tell_any 24 _ [0] _ (lit_own _ #[.int .u8 0] [0] rfl (by simp [maxLen]) 1 rfl).row (by simp)).mono ?_; rw [tl1]; rintro e w7 ⟨p7, rfl, R7, b7⟩; have HQ7 := Lib.hid (AQ.below (AQ.alloc HQ5.out _) b7); have s7 := own_str R7 #[255, 250, 24, 0, 255, 240] (by with_unfolding_all rfl); clear R7 b7)
  go_wp2_with fail
  refine hK.out _ _ (AQ.s HQ7.out) (fun hHeld => ?_)
  clear hK K
  try simp only [Act.put, List.setIfInBounds_toArray, List.set_cons_zero, List.set_cons_succ]
  refine wpAnyH_ready (rs := [64]) (listed := al6_l64) al6_r64 (by simp) (AllReadyH.cons (o := { dst := some 75, op := Op.convert 24 9 (Operand.tmp 74), type := 9, pos := "law.go:26", after := #[{ on := 63, ground := Ground.data }, { on := 61, ground := Ground.guard }], guard := some (61, true) }) al6_g64 (fun K hK => ?_) AllReadyH.nil)
  rw [if_pos (by rfl)]
  go_simp
  refine hK.out _ _ (AQ.s HQ7.out) (fun hHeld => ?_)
  clear hK K
  try simp only [Act.put, List.setIfInBounds_toArray, List.set_cons_zero, List.set_cons_succ]
  refine wpAnyH_take (i := 65) (oi := { dst := some 76, op := Op.binOp BinOp.eql 9 (Operand.tmp 75) (Operand.const (Value.string { data := #[255, 250, 24, 0, 255, 240] })) 9, type := 4, pos := "law.go:26", after := #[{ on := 64, ground := Ground.data }, { on := 61, ground := Ground.guard }], guard := some (61, true) }) (v := ?_) (listed := al6_l65) al6_g65 al6_nosel al6_f65 al6_r65 (fun _ _ _ h => h) (Or.inl ⟨by rfl, ?_⟩) (by assumption) ?_
  rotate_left
  focus (intro w hSw; (try dsimp only at hSw); go_simp; try (with_reducible rfl))
  try simp only [Act.put, List.setIfInBounds_toArray, List.set_cons_zero, List.set_cons_succ]
  refine wpAnyH_take (i := 66) (oi := { dst := some 77, op := Op.pick (Operand.tmp 72) (Operand.tmp 76) (Operand.const (Value.bool false)), type := 4, pos := "law.go:26", after := #[{ on := 61, ground := Ground.data }, { on := 65, ground := Ground.data }], guard := none }) (v := ?_) (listed := al6_l66) al6_g66 al6_nosel al6_f66 al6_r66 (fun _ _ _ h => h) (Or.inl ⟨by rfl, ?_⟩) (by assumption) ?_
  rotate_left
  focus (intro w hSw; (try dsimp only at hSw); go_simp; try (with_reducible rfl))
  try simp only [Act.put, List.setIfInBounds_toArray, List.set_cons_zero, List.set_cons_succ]
  refine wpAnyH_take (i := 67) (oi := { dst := some 78, op := Op.move (Operand.tmp 77), type := 4, pos := "law.go:26", after := #[{ on := 66, ground := Ground.data }, { on := 63, ground := Ground.chain }], guard := none }) (v := ?_) (listed := al6_l67) al6_g67 al6_nosel al6_f67 al6_r67 (fun _ _ _ h => h) (Or.inl ⟨by rfl, ?_⟩) (by assumption) ?_
  rotate_left
  focus (intro w hSw; (try dsimp only at hSw); go_simp; try (with_reducible rfl))
  try simp only [Act.put, List.setIfInBounds_toArray, List.set_cons_zero, List.set_cons_succ]
  refine wpAnyH_ready (rs := [68]) (listed := al6_l68) al6_r68 (by simp) (AllReadyH.cons (o := { dst := some 79, op := Op.buildSlice 24 1 #[(0, Operand.const (Value.int IntKind.u8 255))], type := 24, pos := "law.go:26", after := #[{ on := 67, ground := Ground.guard }], guard := some (67, true) }) al6_g68 (fun K hK => ?_) AllReadyH.nil)
  rw [if_pos (by rfl)]
  go_simp
  refine hK.out _ _ (AQ.s (AQ.alloc HQ7.out _)) (fun hHeld => ?_)
  clear hK K
  try simp only [Act.put, List.setIfInBounds_toArray, List.set_cons_zero, List.set_cons_succ]
  refine wpAnyH_ready (rs := [69]) (listed := al6_l69) al6_r69 (by simp) (AllReadyH.cons (o := { dst := some 80, op := Op.call { callee := Callee.value (Operand.func 16), args := #[Operand.tmp 79], argTypes := #[24] }, type := 24, pos := "law.go:26", after := #[{ on := 68, ground := Ground.data }, { on := 67, ground := Ground.chain }, { on := 67, ground := Ground.guard }], guard := some (67, true) }) al6_g69 (fun K hK => ?_) AllReadyH.nil)
  rw [if_pos (by rfl)]
  go_simp
  (go_at_call 16; refine (record_any _ [255] _ (lit_own _ #[.int .u8 255] [255] rfl (by simp [maxLen]) 1 rfl).row (by simp)).mono ?_; rw [rc1]; rintro e w9 ⟨p9, rfl, R9, b9⟩; have HQ9 := Lib.hid (AQ.below (AQ.alloc HQ7.out _) b9); have s9 := own_str R9 #[255, 255, 255, 239] (by with_unfolding_all rfl); clear R9 b9)
  go_wp2_with fail
  refine hK.out _ _ (AQ.s HQ9.out) (fun hHeld => ?_)
  clear hK K
  try simp only [Act.put, List.setIfInBounds_toArray, List.set_cons_zero, List.set_cons_succ]
  refine wpAnyH_ready (rs := [70]) (listed := al6_l70) al6_r70 (by simp) (AllReadyH.cons (o := { dst := some 81, op := Op.convert 24 9 (Operand.tmp 80), type := 9, pos := "law.go:26", after := #[{ on := 69, ground := Ground.data }, { on := 67, ground := Ground.guard }], guard := some (67, true) }) al6_g70 (fun K hK => ?_) AllReadyH.nil)
  rw [if_pos (by rfl)]
  go_simp
  refine hK.out _ _ (AQ.s HQ9.out) (fun hHeld => ?_)
  clear hK K
  try simp only [Act.put, List.setIfInBounds_toArray, List.set_cons_zero, List.set_cons_succ]
  refine wpAnyH_take (i := 71) (oi := { dst := some 82, op := Op.binOp BinOp.eql 9 (Operand.tmp 81) (Operand.const (Value.string { data := #[255, 255, 255, 239] })) 9, type := 4, pos := "law.go:26", after := #[{ on := 70, ground := Ground.data }, { on := 67, ground := Ground.guard }], guard := some (67, true) }) (v := ?_) (listed := al6_l71) al6_g71 al6_nosel al6_f71 al6_r71 (fun _ _ _ h => h) (Or.inl ⟨by rfl, ?_⟩) (by assumption) ?_
  rotate_left
  focus (intro w hSw; (try dsimp only at hSw); go_simp; try (with_reducible rfl))
  try simp only [Act.put, List.setIfInBounds_toArray, List.set_cons_zero, List.set_cons_succ]
  refine wpAnyH_take (i := 72) (oi := { dst := some 83, op := Op.pick (Operand.tmp 78) (Operand.tmp 82) (Operand.const (Value.bool false)), type := 4, pos := "law.go:26", after := #[{ on := 67, ground := Ground.data }, { on := 71, ground := Ground.data }], guard := none }) (v := ?_) (listed := al6_l72) al6_g72 al6_nosel al6_f72 al6_r72 (fun _ _ _ h => h) (Or.inl ⟨by rfl, ?_⟩) (by assumption) ?_
  rotate_left
  focus (intro w hSw; (try dsimp only at hSw); go_simp; try (with_reducible rfl))
  try simp only [Act.put, List.setIfInBounds_toArray, List.set_cons_zero, List.set_cons_succ]
  refine wpAnyH_take (i := 73) (oi := { dst := some 84, op := Op.move (Operand.tmp 83), type := 4, pos := "law.go:26", after := #[{ on := 72, ground := Ground.data }, { on := 69, ground := Ground.chain }], guard := none }) (v := ?_) (listed := al6_l73) al6_g73 al6_nosel al6_f73 al6_r73 (fun _ _ _ h => h) (Or.inl ⟨by rfl, ?_⟩) (by assumption) ?_
  rotate_left
  focus (intro w hSw; (try dsimp only at hSw); go_simp; try (with_reducible rfl))
  try simp only [Act.put, List.setIfInBounds_toArray, List.set_cons_zero, List.set_cons_succ]
  refine wpAnyH_ready (rs := [74]) (listed := al6_l74) al6_r74 (by simp) (AllReadyH.cons (o := { dst := some 85, op := Op.call { callee := Callee.value (Operand.func 22), args := #[Operand.const (Value.int IntKind.u8 251), Operand.const (Value.int IntKind.u8 25)], argTypes := #[5, 5] }, type := 24, pos := "law.go:26", after := #[{ on := 73, ground := Ground.chain }, { on := 73, ground := Ground.guard }], guard := some (73, true) }) al6_g74 (fun K hK => ?_) AllReadyH.nil)
  rw [if_pos (by rfl)]
  go_simp
  (go_at_call 22; refine (say_own 251 25 _).mono ?_; rintro e w10 ⟨p10, rfl, R10, b10⟩; have HQ10 := Lib.hid (AQ.below HQ9.out b10); have s10 := own_str R10 #[255, 251, 25] (by with_unfolding_all rfl); clear R10 b10)
  go_wp2_with fail
  refine hK.out _ _ (AQ.s HQ10.out) (fun hHeld => ?_)
  clear hK K
  try simp only [Act.put, List.setIfInBounds_toArray, List.set_cons_zero, List.set_cons_succ]
  refine wpAnyH_ready (rs := [75]) (listed := al6_l75) al6_r75 (by simp) (AllReadyH.cons (o := { dst := some 86, op := Op.convert 24 9 (Operand.tmp 85), type := 9, pos := "law.go:26", after := #[{ on := 74, ground := Ground.data }, { on := 73, ground := Ground.guard }], guard := some (73, true) }) al6_g75 (fun K hK => ?_) AllReadyH.nil)
  rw [if_pos (by rfl)]
  go_simp
  refine hK.out _ _ (AQ.s HQ10.out) (fun hHeld => ?_)
  clear hK K
  try simp only [Act.put, List.setIfInBounds_toArray, List.set_cons_zero, List.set_cons_succ]
  refine wpAnyH_take (i := 76) (oi := { dst := some 87, op := Op.binOp BinOp.eql 9 (Operand.tmp 86) (Operand.const (Value.string { data := #[255, 251, 25] })) 9, type := 4, pos := "law.go:26", after := #[{ on := 75, ground := Ground.data }, { on := 73, ground := Ground.guard }], guard := some (73, true) }) (v := ?_) (listed := al6_l76) al6_g76 al6_nosel al6_f76 al6_r76 (fun _ _ _ h => h) (Or.inl ⟨by rfl, ?_⟩) (by assumption) ?_
  rotate_left
  focus (intro w hSw; (try dsimp only at hSw); go_simp; try (with_reducible rfl))
  try simp only [Act.put, List.setIfInBounds_toArray, List.set_cons_zero, List.set_cons_succ]
  refine wpAnyH_take (i := 77) (oi := { dst := some 88, op := Op.pick (Operand.tmp 84) (Operand.tmp 87) (Operand.const (Value.bool false)), type := 4, pos := "law.go:26", after := #[{ on := 73, ground := Ground.data }, { on := 76, ground := Ground.data }], guard := none }) (v := ?_) (listed := al6_l77) al6_g77 al6_nosel al6_f77 al6_r77 (fun _ _ _ h => h) (Or.inl ⟨by rfl, ?_⟩) (by assumption) ?_
  rotate_left
  focus (intro w hSw; (try dsimp only at hSw); go_simp; try (with_reducible rfl))
  try simp only [Act.put, List.setIfInBounds_toArray, List.set_cons_zero, List.set_cons_succ]
  refine wpAnyH_take (i := 78) (oi := { dst := some 89, op := Op.move (Operand.tmp 88), type := 4, pos := "law.go:26", after := #[{ on := 77, ground := Ground.data }, { on := 74, ground := Ground.chain }], guard := none }) (v := ?_) (listed := al6_l78) al6_g78 al6_nosel al6_f78 al6_r78 (fun _ _ _ h => h) (Or.inl ⟨by rfl, ?_⟩) (by assumption) ?_
  rotate_left
  focus (intro w hSw; (try dsimp only at hSw); go_simp; try (with_reducible rfl))
  try simp only [Act.put, List.setIfInBounds_toArray, List.set_cons_zero, List.set_cons_succ]
  refine wpAnyH_ready (rs := [79]) (listed := al6_l79) al6_r79 (by simp) (AllReadyH.cons (o := { dst := some 90, op := Op.buildSlice 24 2 #[(0, Operand.const (Value.int IntKind.u8 255)), (1, Operand.const (Value.int IntKind.u8 1))], type := 24, pos := "law.go:26", after := #[{ on := 78, ground := Ground.guard }], guard := some (78, true) }) al6_g79 (fun K hK => ?_) AllReadyH.nil)
  rw [if_pos (by rfl)]
  go_simp
  refine hK.out _ _ (AQ.s (AQ.alloc HQ10.out _)) (fun hHeld => ?_)
  clear hK K
  try simp only [Act.put, List.setIfInBounds_toArray, List.set_cons_zero, List.set_cons_succ]
  refine wpAnyH_ready (rs := [80]) (listed := al6_l80) al6_r80 (by simp) (AllReadyH.cons (o := { dst := some 91, op := Op.call { callee := Callee.value (Operand.func 12), args := #[Operand.tmp 90], argTypes := #[24] }, type := 24, pos := "law.go:26", after := #[{ on := 79, ground := Ground.data }, { on := 78, ground := Ground.chain }, { on := 78, ground := Ground.guard }], guard := some (78, true) }) al6_g80 (fun K hK => ?_) AllReadyH.nil)
  rw [if_pos (by rfl)]
  go_simp
  (go_at_call 12; refine (escape_any _ [255, 1] _ (lit_own _ #[.int .u8 255, .int .u8 1] [255, 1] rfl (by simp [maxLen]) 2 rfl).row (by simp)).mono ?_; rw [es2]; rintro e w12 ⟨p12, rfl, R12, b12⟩; have HQ12 := Lib.hid (AQ.below (AQ.alloc HQ10.out _) b12); have s12 := own_str R12 #[255, 255, 1] (by with_unfolding_all rfl); clear R12 b12)
  go_wp2_with fail
  refine hK.out _ _ (AQ.s HQ12.out) (fun hHeld => ?_)
  clear hK K
  try simp only [Act.put, List.setIfInBounds_toArray, List.set_cons_zero, List.set_cons_succ]
  refine wpAnyH_ready (rs := [81]) (listed := al6_l81) al6_r81 (by simp) (AllReadyH.cons (o := { dst := some 92, op := Op.convert 24 9 (Operand.tmp 91), type := 9, pos := "law.go:26", after := #[{ on := 80, ground := Ground.data }, { on := 78, ground := Ground.guard }], guard := some (78, true) }) al6_g81 (fun K hK => ?_) AllReadyH.nil)
  rw [if_pos (by rfl)]
  go_simp
  refine hK.out _ _ (AQ.s HQ12.out) (fun hHeld => ?_)
  clear hK K
  try simp only [Act.put, List.setIfInBounds_toArray, List.set_cons_zero, List.set_cons_succ]
  refine wpAnyH_take (i := 82) (oi := { dst := some 93, op := Op.binOp BinOp.eql 9 (Operand.tmp 92) (Operand.const (Value.string { data := #[255, 255, 1] })) 9, type := 4, pos := "law.go:26", after := #[{ on := 81, ground := Ground.data }, { on := 78, ground := Ground.guard }], guard := some (78, true) }) (v := ?_) (listed := al6_l82) al6_g82 al6_nosel al6_f82 al6_r82 (fun _ _ _ h => h) (Or.inl ⟨by rfl, ?_⟩) (by assumption) ?_
  rotate_left
  focus (intro w hSw; (try dsimp only at hSw); go_simp; try (with_reducible rfl))
  try simp only [Act.put, List.setIfInBounds_toArray, List.set_cons_zero, List.set_cons_succ]
  refine wpAnyH_take (i := 83) (oi := { dst := some 94, op := Op.pick (Operand.tmp 89) (Operand.tmp 93) (Operand.const (Value.bool false)), type := 4, pos := "law.go:26", after := #[{ on := 78, ground := Ground.data }, { on := 82, ground := Ground.data }], guard := none }) (v := ?_) (listed := al6_l83) al6_g83 al6_nosel al6_f83 al6_r83 (fun _ _ _ h => h) (Or.inl ⟨by rfl, ?_⟩) (by assumption) ?_
  rotate_left
  focus (intro w hSw; (try dsimp only at hSw); go_simp; try (with_reducible rfl))
  try simp only [Act.put, List.setIfInBounds_toArray, List.set_cons_zero, List.set_cons_succ]
  refine wpAnyH_take (i := 84) (oi := { dst := some 95, op := Op.move (Operand.tmp 94), type := 4, pos := "law.go:26", after := #[{ on := 83, ground := Ground.data }, { on := 80, ground := Ground.chain }], guard := none }) (v := ?_) (listed := al6_l84) al6_g84 al6_nosel al6_f84 al6_r84 (fun _ _ _ h => h) (Or.inl ⟨by rfl, ?_⟩) (by assumption) ?_
  rotate_left
  focus (intro w hSw; (try dsimp only at hSw); go_simp; try (with_reducible rfl))
  try simp only [Act.put, List.setIfInBounds_toArray, List.set_cons_zero, List.set_cons_succ]
  refine wpAnyH_take (i := 85) (oi := { dst := some 96, op := Op.build 26 #[(0, Operand.const (Value.int IntKind.i64 1))], type := 26, pos := "law.go:26", after := #[{ on := 84, ground := Ground.guard }], guard := some (84, true) }) (v := ?_) (listed := al6_l85) al6_g85 al6_nosel al6_f85 al6_r85 (fun _ _ _ h => h) (Or.inl ⟨by rfl, ?_⟩) (by assumption) ?_
  rotate_left
  focus (intro w hSw; (try dsimp only at hSw); go_simp; try (with_reducible rfl))
  try simp only [Act.put, List.setIfInBounds_toArray, List.set_cons_zero, List.set_cons_succ]
  refine wpAnyH_take (i := 86) (oi := { dst := some 97, op := Op.build 26 #[(0, Operand.const (Value.int IntKind.i64 2))], type := 26, pos := "law.go:26", after := #[{ on := 84, ground := Ground.guard }], guard := some (84, true) }) (v := ?_) (listed := al6_l86) al6_g86 al6_nosel al6_f86 al6_r86 (fun _ _ _ h => h) (Or.inl ⟨by rfl, ?_⟩) (by assumption) ?_
  rotate_left
  focus (intro w hSw; (try dsimp only at hSw); go_simp; try (with_reducible rfl))
  try simp only [Act.put, List.setIfInBounds_toArray, List.set_cons_zero, List.set_cons_succ]
  refine wpAnyH_ready (rs := [87]) (listed := al6_l87) al6_r87 (by simp) (AllReadyH.cons (o := { dst := some 98, op := Op.buildSlice 22 2 #[(0, Operand.tmp 96), (1, Operand.tmp 97)], type := 22, pos := "law.go:26", after := #[{ on := 85, ground := Ground.data }, { on := 86, ground := Ground.data }, { on := 84, ground := Ground.guard }], guard := some (84, true) }) al6_g87 (fun K hK => ?_) AllReadyH.nil)
  rw [if_pos (by rfl)]
  go_simp
  refine hK.out _ _ (AQ.s (AQ.alloc HQ12.out _)) (fun hHeld => ?_)
  clear hK K
  try simp only [Act.put, List.setIfInBounds_toArray, List.set_cons_zero, List.set_cons_succ]
  refine wpAnyH_ready (rs := [88]) (listed := al6_l88) al6_r88 (by simp) (AllReadyH.cons (o := { dst := some 99, op := Op.call { callee := Callee.value (Operand.func 20), args := #[Operand.tmp 98], argTypes := #[22] }, type := 22, pos := "law.go:26", after := #[{ on := 87, ground := Ground.data }, { on := 84, ground := Ground.chain }, { on := 84, ground := Ground.guard }], guard := some (84, true) }) al6_g88 (fun K hK => ?_) AllReadyH.nil)
  rw [if_pos (by rfl)]
  go_simp
  (go_at_call 20; refine (join_any _ [⟨1, 0, 0, []⟩, ⟨2, 0, 0, []⟩] _ (evs2_new _) (by simp) (by simp [totE])).mono ?_; rw [jn2]; rintro e w14 ⟨v14, P14, rfl, hE14, hP14, b14⟩; have HQ14 := Lib.hid (AQ.below (AQ.alloc HQ12.out _) b14); obtain ⟨z14, rfl⟩ := map1 hP14; obtain ⟨a14, c14, rfl⟩ := hE14.form; clear hE14 hP14 b14)
  go_wp2_with fail
  refine hK.out _ _ (AQ.s HQ14.out) (fun hHeld => ?_)
  clear hK K
  try simp only [Act.put, List.setIfInBounds_toArray, List.set_cons_zero, List.set_cons_succ]
  refine wpAnyH_take (i := 89) (oi := { dst := some 100, op := Op.call { callee := Callee.builtin Builtin.len, args := #[Operand.tmp 99], argTypes := #[22] }, type := 3, pos := "law.go:26", after := #[{ on := 88, ground := Ground.data }, { on := 84, ground := Ground.guard }], guard := some (84, true) }) (v := ?_) (listed := al6_l89) al6_g89 al6_nosel al6_f89 al6_r89 (fun _ _ _ h => h) (Or.inl ⟨by rfl, ?_⟩) (by assumption) ?_
  rotate_left
  focus (intro w hSw; (try dsimp only at hSw); go_simp; try (with_reducible rfl))
  try simp only [Act.put, List.setIfInBounds_toArray, List.set_cons_zero, List.set_cons_succ]
  refine wpAnyH_take (i := 90) (oi := { dst := some 101, op := Op.binOp BinOp.eql 3 (Operand.tmp 100) (Operand.const (Value.int IntKind.i64 1)) 3, type := 4, pos := "law.go:26", after := #[{ on := 89, ground := Ground.data }, { on := 84, ground := Ground.guard }], guard := some (84, true) }) (v := ?_) (listed := al6_l90) al6_g90 al6_nosel al6_f90 al6_r90 (fun _ _ _ h => h) (Or.inl ⟨by rfl, ?_⟩) (by assumption) ?_
  rotate_left
  focus (intro w hSw; (try dsimp only at hSw); go_simp; try (with_reducible rfl))
  try simp only [Act.put, List.setIfInBounds_toArray, List.set_cons_zero, List.set_cons_succ]
  refine wpAnyH_take (i := 91) (oi := { dst := some 102, op := Op.pick (Operand.tmp 95) (Operand.tmp 101) (Operand.const (Value.bool false)), type := 4, pos := "law.go:26", after := #[{ on := 84, ground := Ground.data }, { on := 90, ground := Ground.data }], guard := none }) (v := ?_) (listed := al6_l91) al6_g91 al6_nosel al6_f91 al6_r91 (fun _ _ _ h => h) (Or.inl ⟨by rfl, ?_⟩) (by assumption) ?_
  rotate_left
  focus (intro w hSw; (try dsimp only at hSw); go_simp; try (with_reducible rfl))
  try simp only [Act.put, List.setIfInBounds_toArray, List.set_cons_zero, List.set_cons_succ]
  refine wpAnyH_take (i := 92) (oi := { dst := some 0, op := Op.assign (Operand.tmp 102), type := 4, pos := "law.go:26", after := ([{ on := 91, ground := Ground.data }, { on := 88, ground := Ground.chain }, { on := 0, ground := Ground.phase }, { on := 1, ground := Ground.phase }, { on := 2, ground := Ground.phase }, { on := 3, ground := Ground.phase }, { on := 4, ground := Ground.phase }, { on := 5, ground := Ground.phase }, { on := 6, ground := Ground.phase }, { on := 7, ground := Ground.phase }, { on := 8, ground := Ground.phase }, { on := 9, ground := Ground.phase }, { on := 10, ground := Ground.phase }, { on := 11, ground := Ground.phase }, { on := 12, ground := Ground.phase }, { on := 13, ground := Ground.phase }, { on := 14, ground := Ground.phase }, { on := 15, ground := Ground.phase }, { on := 16, ground := Ground.phase }, { on := 17, ground := Ground.phase }, { on := 18, ground := Ground.phase }, { on := 19, ground := Ground.phase }, { on := 20, ground := Ground.phase }, { on := 21, ground := Ground.phase }, { on := 22, ground := Ground.phase }, { on := 23, ground := Ground.phase }, { on := 24, ground := Ground.phase }, { on := 25, ground := Ground.phase }, { on := 26, ground := Ground.phase }, { on := 27, ground := Ground.phase }, { on := 28, ground := Ground.phase }, { on := 29, ground := Ground.phase }, { on := 30, ground := Ground.phase }, { on := 31, ground := Ground.phase }, { on := 32, ground := Ground.phase }, { on := 33, ground := Ground.phase }, { on := 34, ground := Ground.phase }, { on := 35, ground := Ground.phase }, { on := 36, ground := Ground.phase }, { on := 37, ground := Ground.phase }, { on := 38, ground := Ground.phase }, { on := 39, ground := Ground.phase }, { on := 40, ground := Ground.phase }, { on := 41, ground := Ground.phase }, { on := 42, ground := Ground.phase }, { on := 43, ground := Ground.phase }, { on := 44, ground := Ground.phase }].append [{ on := 45, ground := Ground.phase }, { on := 46, ground := Ground.phase }, { on := 47, ground := Ground.phase }, { on := 48, ground := Ground.phase }, { on := 49, ground := Ground.phase }, { on := 50, ground := Ground.phase }, { on := 51, ground := Ground.phase }, { on := 52, ground := Ground.phase }, { on := 53, ground := Ground.phase }, { on := 54, ground := Ground.phase }, { on := 55, ground := Ground.phase }, { on := 56, ground := Ground.phase }, { on := 57, ground := Ground.phase }, { on := 58, ground := Ground.phase }, { on := 59, ground := Ground.phase }, { on := 60, ground := Ground.phase }, { on := 61, ground := Ground.phase }, { on := 62, ground := Ground.phase }, { on := 63, ground := Ground.phase }, { on := 64, ground := Ground.phase }, { on := 65, ground := Ground.phase }, { on := 66, ground := Ground.phase }, { on := 67, ground := Ground.phase }, { on := 68, ground := Ground.phase }, { on := 69, ground := Ground.phase }, { on := 70, ground := Ground.phase }, { on := 71, ground := Ground.phase }, { on := 72, ground := Ground.phase }, { on := 73, ground := Ground.phase }, { on := 74, ground := Ground.phase }, { on := 75, ground := Ground.phase }, { on := 76, ground := Ground.phase }, { on := 77, ground := Ground.phase }, { on := 78, ground := Ground.phase }, { on := 79, ground := Ground.phase }, { on := 80, ground := Ground.phase }, { on := 81, ground := Ground.phase }, { on := 82, ground := Ground.phase }, { on := 83, ground := Ground.phase }, { on := 84, ground := Ground.phase }, { on := 85, ground := Ground.phase }, { on := 86, ground := Ground.phase }, { on := 87, ground := Ground.phase }, { on := 88, ground := Ground.phase }, { on := 89, ground := Ground.phase }, { on := 90, ground := Ground.phase }, { on := 91, ground := Ground.phase }]).toArray, guard := none }) (v := ?_) (listed := al6_l92) al6_g92 al6_nosel al6_f92 al6_r92 (fun _ _ _ h => h) (Or.inl ⟨by rfl, ?_⟩) (by assumption) ?_
  rotate_left
  focus (intro w hSw; (try dsimp only at hSw); go_simp; try (with_reducible rfl))
  try simp only [Act.put, List.setIfInBounds_toArray, List.set_cons_zero]
  refine wpAnyH_done (listed := al6_l93) al6_end ?_ _
  go_wp2
  go_ret
  exact ⟨rfl, HBB.out ▸ HQ14.out.al.old⟩
end Go.Proofs.Ytimidoaafllnkaa.Iac
