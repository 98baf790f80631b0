/-
  A new talk.
-/
import Derived.Test.YtimidoaafllnkaaTalkY
namespace Go.Proofs.Ytimidoaafllnkaa.Talk
open Go.RowKit Base Opt
set_option linter.unusedVariables false

theorem wp_load {o : Oper} {a : Act} {w : World} {K : Act → World → Prop} {Q : Exit → Act → World → Prop} (ty : TypeId) (x : Operand) (ho : o.op = .load ty x) {p : Addr} (hx : a.eval x = .pointer (some p)) {v : Value} (hrun : (loadVar ty p).run Try.prog w = .ok v w)
    (h : K (a.put o.dst v) w) : o.wp Try.prog a w K Q := by
  unfold Oper.wp
  simp [execOp, ho, Instr.loadAt, Instr.sureAddr, hx, hrun, Result.andThen]
  exact h
theorem wp_box {o : Oper} {a : Act} {w : World} {K : Act → World → Prop} {Q : Exit → Act → World → Prop} (ty : TypeId) (x : Operand) (ho : o.op = .box ty x) {C : Array Value} (hx : a.eval x = .agg C)
    (h : K (a.put o.dst (.pointer (some ⟨w.heap.size, 0, none⟩))) (w.alloc (.cells C ty))) : o.wp Try.prog a w K Q := by
  unfold Oper.wp
  simp [execOp, ho, Instr.box, newVar, newRow, hx, Value.cells, Result.andThen]
  exact h
theorem wp_built {o : Oper} {a : Act} {w : World} {K : Act → World → Prop} {Q : Exit → Act → World → Prop} (t : TypeId) (parts : Array (Nat × Operand)) (ho : o.op = .build t parts) {cells : Array Value} {L : List (Nat × Value)} (hL : (parts.map fun (i, x) => (i, a.eval x)).toList = L)
    (hc : Try.prog.built t L = some cells) (h : K (a.put o.dst (.agg cells)) w) : o.wp Try.prog a w K Q := by
  subst hL
  unfold Oper.wp execOp
  simp only [ho, Sem.run_bind, run_build w t _ cells hc, Result.andThen_ok]
  exact h
def oursL (ext : Bool) : List Int := if ext = true then [0, 24, 25, 40] else [0, 24, 25]
theorem ours_bytes (ext : Bool) : Opt.IsBytes (oursL ext) := by cases ext <;> (intro x hx; simp [oursL] at hx; omega)
theorem theirs_bytes : Opt.IsBytes [0, 25] := by intro x hx; simp at hx; omega
/-- What New makes. -/
def NewK (nm : ByteArray) (ext : Bool) (w : World) (e : Ending) (w' : World) : Prop :=
  ∃ b, e = .returned (.pointer (some ⟨b, 0, none⟩)) ∧ TalkAt w' b nm (mayM (oursL ext) [0, 25]) (fun _ => 0) false ∧ Below w.heap.size w w' ∧ w.heap.size ≤ b
set_option maxRecDepth 100000 in
set_option maxHeartbeats 4000000 in
theorem new_any' (s : ByteArray) (w : World) (hs : s.size ≤ maxLen) : Calls Try.prog 25 #[.string s, .bool false] w (NewK (cleaned s) false w) := by
  have hz := (zero_of_info info_talk).1
  rw [ztalk_eq] at hz
  have b1 := below_alloc w (.cells #[.int .u8 0, .int .u8 24, .int .u8 25] 5)
  have o1 : OwnBytes w.heap.size (w.alloc (.cells #[.int .u8 0, .int .u8 24, .int .u8 25] 5)) (.slice (some ⟨w.heap.size, 0, none⟩) 3 3) (oursL false) :=
    ⟨rfl, .inr ⟨w.heap.size, 3, #[.int .u8 0, .int .u8 24, .int .u8 25], rfl, Nat.le_refl _, heap_alloc_new w _, by simp [oursL], by simp [maxLen], by simp, by simp [oursL]⟩⟩
  obtain ⟨W1, hW1⟩ : ∃ W1, W1 = w.alloc (.cells #[.int .u8 0, .int .u8 24, .int .u8 25] 5) := ⟨_, rfl⟩
  obtain ⟨g1, hg1⟩ : ∃ g1, g1 = w.heap.size := ⟨_, rfl⟩
  rw [← hW1] at b1 o1
  rw [← hg1] at o1
  have HW1 := Lib.hid hW1.symm
  have HG1 := Lib.hid hg1.symm
  have HB1 := Lib.hid b1
  have HO1 := Lib.hid o1
  clear hW1 hg1 b1 o1
  go_enter Try.func25, Try.ntmps25
  go_upto_region 4 with fail
  rw [HW1.out, HG1.out]
  go_wp2_with fail
  refine (clean_any s W1 hs).mono ?_
  rintro e W2 ⟨rfl, hb2⟩
  have b3 := below_alloc W2 (.cells #[.int .u8 0, .int .u8 25] 5)
  have o3 := new2_own W2 0 25
  obtain ⟨W3, hW3⟩ : ∃ W3, W3 = W2.alloc (.cells #[.int .u8 0, .int .u8 25] 5) := ⟨_, rfl⟩
  obtain ⟨g2, hg2⟩ : ∃ g2, g2 = W2.heap.size := ⟨_, rfl⟩
  rw [← hW3] at b3 o3
  rw [← hg2] at o3
  have HW3 := Lib.hid hW3.symm
  have HG2 := Lib.hid hg2.symm
  have hb23 := hb2.trans (b3.mono hb2.size)
  have HB3 := Lib.hid (HB1.out.trans (hb23.mono HB1.out.size))
  have HO3 := Lib.hid ((HO1.out.below hb23).row)
  have HR3 := Lib.hid o3.row
  clear hb2 b3 o3 hW3 hg2 hb23
  go_wp2_with fail
  rw [HW3.out, HG2.out]
  refine (new_any _ _ (oursL false) [0, 25] W3 HO3.out HR3.out (ours_bytes false) theirs_bytes (by simp [maxLen, oursL]) (by simp [maxLen])).mono ?_
  rintro e W4 ⟨rfl, ho4, hb4, hlt4⟩
  obtain ⟨g, hg⟩ : ∃ g, g = W3.heap.size := ⟨_, rfl⟩
  rw [← hg] at ho4 hlt4 ⊢
  obtain ⟨C, hC⟩ : ∃ C, C = optC (mayM (oursL false) [0, 25]) (fun _ => 0) := ⟨_, rfl⟩
  have hload : (loadVar 112 ⟨g, 0, none⟩).run Try.prog W4 = .ok (.agg C) W4 := by
    rw [hC]
    exact run_loadVar_row W4 g 112 112 _ (0, 0) _ ho4 Try.underlying112 rfl (by rw [optC_size]; exact size_opt)
  have HC := Lib.hid hC
  have HB4 := Lib.hid (HB3.out.trans ((show Below W3.heap.size W3 W4 from hb4).mono HB3.out.size))
  have hfz := ho4.frozen 0
  clear ho4 hb4 hg hC
  go_wp2_with fail
  refine wp_load 112 _ rfl rfl hload ?_
  rename_i K0 hK0
  refine hK0 _ _ ?_
  clear hK0 K0
  obtain ⟨T, hT⟩ : ∃ T, T = talkC (cleaned s) (mayM (oursL false) [0, 25]) (fun _ => 0) false := ⟨_, rfl⟩
  have hbt : Try.prog.built 115 [(0, .string (cleaned s)), (1, .agg C)] = some T := by rw [HC.out, hT]; exact built_talk _ _ _
  have HFIN : Hid (NewK (cleaned s) false w (.returned (.pointer (some ⟨W4.heap.size, 0, none⟩))) (W4.alloc (.cells T 115))) := Lib.hid ⟨_, rfl, by rw [hT]; exact heap_alloc_new W4 _, HB4.out.trans ((below_alloc W4 _).mono HB4.out.size), HB4.out.size⟩
  have HBT := Lib.hid hbt
  clear hT hbt hload
  refine wpList_plain rfl fun K1 hK1 => wp_built 115 _ rfl (by simp [Act.eval, Act.put]) HBT.out (hK1 _ _ ?_)
  clear hK1 K1
  refine wpList_plain rfl fun K2 hK2 => wp_box 115 _ rfl (C := T) (by simp [Act.eval, Act.put]) (hK2 _ _ ?_)
  clear hK2 K2
  go_wp2_with fail
  go_ret
  exact HFIN.out
set_option maxRecDepth 100000 in
set_option maxHeartbeats 4000000 in
theorem new_ext (s : ByteArray) (w : World) (hs : s.size ≤ maxLen) : Calls Try.prog 25 #[.string s, .bool true] w (NewK (cleaned s) true w) := by
  have hz := (zero_of_info info_talk).1
  rw [ztalk_eq] at hz
  have o1 : OwnBytes w.heap.size (w.alloc (.cells #[.int .u8 0, .int .u8 24, .int .u8 25] 5)) (.slice (some ⟨w.heap.size, 0, none⟩) 3 3) [0, 24, 25] :=
    ⟨rfl, .inr ⟨w.heap.size, 3, #[.int .u8 0, .int .u8 24, .int .u8 25], rfl, Nat.le_refl _, heap_alloc_new w _, by simp, by simp [maxLen], by simp, by simp⟩⟩
  have b0 := below_alloc w (.cells #[.int .u8 0, .int .u8 24, .int .u8 25] 5)
  have b01 := below_alloc (w.alloc (.cells #[.int .u8 0, .int .u8 24, .int .u8 25] 5)) (.cells #[.int .u8 40] 5)
  have HO0 := Lib.hid (o1.below b01)
  have r1 := row_one8 (w.alloc (.cells #[.int .u8 0, .int .u8 24, .int .u8 25] 5)) 40 5
  rw [World.size_alloc] at r1
  have HR0 := Lib.hid r1
  have HB0 := Lib.hid (b0.trans (b01.mono b0.size))
  clear o1 b0 b01 r1
  go_enter Try.func25, Try.ntmps25
  go_upto_region 3 with fail
  go_wp2_with (at_builtin; go_loud (refine append_row rfl _ _ rfl HO0.out HR0.out (fun _ _ h => by cases h) rfl rfl (by simp) (by rw [World.size_alloc, World.size_alloc]; omega) HB0.out ?_); intro v1 W1 hown1 hold1 _ _; have HO1 := Lib.hid hown1; have HB1 := Lib.hid hold1; obtain ⟨a1, c1, rfl⟩ := hown1.slice; clear hown1 hold1; go_upto_region 4 with fail)
  have HO1 : Hid (OwnBytes w.heap.size W1 (.slice a1 4 c1) (oursL true)) := Lib.hid HO1.out
  refine (clean_any s W1 hs).mono ?_
  rintro e W2 ⟨rfl, hb2⟩
  have b3 := below_alloc W2 (.cells #[.int .u8 0, .int .u8 25] 5)
  have o3 := new2_own W2 0 25
  obtain ⟨W3, hW3⟩ : ∃ W3, W3 = W2.alloc (.cells #[.int .u8 0, .int .u8 25] 5) := ⟨_, rfl⟩
  obtain ⟨g2, hg2⟩ : ∃ g2, g2 = W2.heap.size := ⟨_, rfl⟩
  rw [← hW3] at b3 o3
  rw [← hg2] at o3
  have HW3 := Lib.hid hW3.symm
  have HG2 := Lib.hid hg2.symm
  have hb23 := hb2.trans (b3.mono hb2.size)
  have HB3 := Lib.hid (HB1.out.trans (hb23.mono HB1.out.size))
  have HO3 := Lib.hid ((HO1.out.below hb23).row)
  have HR3 := Lib.hid o3.row
  clear hb2 b3 o3 hW3 hg2 hb23
  go_wp2_with fail
  rw [HW3.out, HG2.out]
  refine (new_any _ _ (oursL true) [0, 25] W3 HO3.out HR3.out (ours_bytes true) theirs_bytes (by simp [maxLen, oursL]) (by simp [maxLen])).mono ?_
  rintro e W4 ⟨rfl, ho4, hb4, hlt4⟩
  obtain ⟨g, hg⟩ : ∃ g, g = W3.heap.size := ⟨_, rfl⟩
  rw [← hg] at ho4 hlt4 ⊢
  obtain ⟨C, hC⟩ : ∃ C, C = optC (mayM (oursL true) [0, 25]) (fun _ => 0) := ⟨_, rfl⟩
  have hload : (loadVar 112 ⟨g, 0, none⟩).run Try.prog W4 = .ok (.agg C) W4 := by
    rw [hC]
    exact run_loadVar_row W4 g 112 112 _ (0, 0) _ ho4 Try.underlying112 rfl (by rw [optC_size]; exact size_opt)
  have HC := Lib.hid hC
  have HB4 := Lib.hid (HB3.out.trans ((show Below W3.heap.size W3 W4 from hb4).mono HB3.out.size))
  have hfz := ho4.frozen 0
  clear ho4 hb4 hg hC
  go_wp2_with fail
  refine wp_load 112 _ rfl rfl hload ?_
  rename_i K0 hK0
  refine hK0 _ _ ?_
  clear hK0 K0
  obtain ⟨T, hT⟩ : ∃ T, T = talkC (cleaned s) (mayM (oursL true) [0, 25]) (fun _ => 0) false := ⟨_, rfl⟩
  have hbt : Try.prog.built 115 [(0, .string (cleaned s)), (1, .agg C)] = some T := by rw [HC.out, hT]; exact built_talk _ _ _
  have HFIN : Hid (NewK (cleaned s) true w (.returned (.pointer (some ⟨W4.heap.size, 0, none⟩))) (W4.alloc (.cells T 115))) := Lib.hid ⟨_, rfl, by rw [hT]; exact heap_alloc_new W4 _, HB4.out.trans ((below_alloc W4 _).mono HB4.out.size), HB4.out.size⟩
  have HBT := Lib.hid hbt
  clear hT hbt hload
  refine wpList_plain rfl fun K1 hK1 => wp_built 115 _ rfl (by simp [Act.eval, Act.put]) HBT.out (hK1 _ _ ?_)
  clear hK1 K1
  refine wpList_plain rfl fun K2 hK2 => wp_box 115 _ rfl (C := T) (by simp [Act.eval, Act.put]) (hK2 _ _ ?_)
  clear hK2 K2
  go_wp2_with fail
  go_ret
  exact HFIN.out
theorem talk_new (s : ByteArray) (ext : Bool) (w : World) (hs : s.size ≤ maxLen) : Calls Try.prog 25 #[.string s, .bool ext] w (NewK (cleaned s) ext w) := by
  cases ext
  · exact new_any' s w hs
  · exact new_ext s w hs
theorem leave_any {w : World} {b : Nat} {nm : ByteArray} {M : Nat → Bool} {S : Nat → Nat} {nd : Bool} (h : TalkAt w b nm M S nd) (hs : Le5 S) :
    Calls Try.prog 30 #[.pointer (some ⟨b, 0, none⟩)] w (GotK b nm M (wantS S 252 40).1 nd (wantS S 252 40).2.1 w) := by
  have HW := Lib.hid (want_talk 252 40 (by omega) h hs)
  clear h
  go_enter Try.func30, Try.ntmps30
  go_wp2_with fail
  refine HW.out.mono ?_
  rintro e w' ⟨v, rfl, hr, ht, hu⟩
  have HR := Lib.hid hr
  have HT := Lib.hid ht
  have HU := Lib.hid hu
  clear hr ht hu
  go_wp2_with fail
  go_ret
  exact ⟨_, rfl, HR.out, HT.out, HU.out⟩
end Go.Proofs.Ytimidoaafllnkaa.Talk
