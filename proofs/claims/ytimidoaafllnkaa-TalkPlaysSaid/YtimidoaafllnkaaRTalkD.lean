/-
  The reference's talk: its Take of what is no verb.
-/
import Derived.Test.YtimidoaafllnkaaRTalkC
import Derived.Test.YtimidoaafllnkaaTalkD
namespace Go.Proofs.Ytimidoaafllnkaa.Talk
open Go.RowKit Base Opt
set_option linter.unusedVariables false
set_option linter.unusedSimpArgs false

section
variable {base s : Nat} {w Z : World} {nm : ByteArray} {nd : Bool} {L : List One} {A B : List Int} {E R : Array Value} {x u v : Value} {xa ua va : Option Addr} {xn xc un uc vn vc : Nat}
theorem UQ.drew' (h : UQ base s w nm x u v nd L A B E R Z) : UQ base s w nm x u v nd L A B E R Z.drew := h.below (Below.refl _ _).drew
theorem UQ.s5 (h : UQ base s w nm x u v nd L A B E R Z) : Z.cell? ⟨s, 0, none⟩ = some (.string nm) ∧ Z.cell? ⟨s, 1, none⟩ = some x ∧ Z.cell? ⟨s, 2, none⟩ = some u ∧ Z.cell? ⟨s, 3, none⟩ = some v ∧ Z.cell? ⟨s, 4, none⟩ = some (.bool nd) := by
  obtain ⟨c0, c1, c2, c3, c4, _⟩ := h.tcells
  exact ⟨c0, c1, c2, c3, c4⟩
theorem UQ.fin_s5 (h : UQ base s w nm (.slice xa xn xc) (.slice ua un uc) (.slice va vn vc) nd L A B E R0 Z) {a b c d e : Value} : (put5 Z (s + 1 + 1) a b c d e).cell? ⟨s, 0, none⟩ = some (.string nm) ∧ (put5 Z (s + 1 + 1) a b c d e).cell? ⟨s, 1, none⟩ = some (.slice xa xn xc) ∧ (put5 Z (s + 1 + 1) a b c d e).cell? ⟨s, 2, none⟩ = some (.slice ua un uc) ∧ (put5 Z (s + 1 + 1) a b c d e).cell? ⟨s, 3, none⟩ = some (.slice va vn vc) ∧ (put5 Z (s + 1 + 1) a b c d e).cell? ⟨s, 4, none⟩ = some (.bool nd) := by
  have e1 := (put5_turn Z (s + 1 + 1) a b c d e).block s (lt_of_block h.box) (by unfold At; omega)
  obtain ⟨c0, c1, c2, c3, c4⟩ := h.s5
  exact ⟨(cell_block e1 _).trans c0, (cell_block e1 _).trans c1, (cell_block e1 _).trans c2, (cell_block e1 _).trans c3, (cell_block e1 _).trans c4⟩
end
theorem rows3 (w : World) (x y z : Value) (X Y Z : List Int) (hx : RowOf .u8 w x X) (hy : RowOf .u8 w y Y) (hz : RowOf .u8 w z Z) : Iac.Rows8 (w.alloc (.cells #[x, y, z] 24)) (.slice (some ⟨w.heap.size, 0, none⟩) 3 3) [X, Y, Z] := by
  have hb := below_alloc w (.cells #[x, y, z] 24)
  refine ⟨_, 3, rfl, fun _ => ⟨w.heap.size, 0, rfl, by simp, fun i r hi => ?_⟩⟩
  match i, hi with
  | 0, hi => simp at hi; subst hi; exact ⟨x, by simp [go_sem], hx.below hb⟩
  | 1, hi => simp at hi; subst hi; exact ⟨y, by simp [go_sem], hy.below hb⟩
  | 2, hi => simp at hi; subst hi; exact ⟨z, by simp [go_sem], hz.below hb⟩
set_option maxRecDepth 100000 in
set_option maxHeartbeats 16000000 in
theorem rtake_else (base : Nat) (nm : ByteArray) (xa ua va ea : Option Addr) (xn xc un uc vn vc en ec : Nat) (nd : Bool) (L : List One) (A B Lb : List Int) (k c o : Int) (w : World) (h : OneRow base w (.slice xa xn xc) L) (hl : L.length ≤ 200)
    (hu : RowOf .u8 w (.slice ua un uc) A) (hv : RowOf .u8 w (.slice va vn vc) B) (he : RowOf .u8 w (.slice ea en ec) Lb) (hk : (k == 4) = false) (hno : (asks k o Lb && decide (stL L true 24 = 1)) = false) :
    Calls Try.prog 28 #[.agg #[.string nm, .slice xa xn xc, .slice ua un uc, .slice va vn vc, .bool nd], .agg #[.int .i64 k, .int .u8 c, .int .u8 o, .slice ea en ec]] w (RTakeK base nm (.slice ua un uc) (.slice va vn vc) (L, nd, []) w) := by
  have hzero := (zero_of_info info_rt).1
  have hq := uq_new (nm := nm) (nd := nd) (E := #[.int .i64 k, .int .u8 c, .int .u8 o, .slice ea en ec]) h hu hv
  obtain ⟨W0, hW⟩ : ∃ W0, W0 = ((w.alloc (.cells (rtC nm (.slice xa xn xc) (.slice ua un uc) (.slice va vn vc) nd) 48)).alloc (.cells #[.int .i64 k, .int .u8 c, .int .u8 o, .slice ea en ec] 32)).alloc (.cells R0 48) := ⟨_, rfl⟩
  obtain ⟨s, hs⟩ : ∃ s, s = w.heap.size := ⟨_, rfl⟩
  rw [← hW, ← hs] at hq
  have hre : RowOf .u8 W0 (.slice ea en ec) Lb := he.below (hs ▸ hq.old)
  unfold rtC R0 at hW
  have HW := Lib.hid hW.symm
  have HS := Lib.hid hs
  have HQ := Lib.hid hq
  have HRE := Lib.hid hre
  have HON := Lib.hid (ron_any base nm _ (.slice ua un uc) (.slice va vn vc) nd L true 24 W0 hq.row (by omega))
  have HL200 := Lib.hid hl
  obtain ⟨b, hb⟩ : ∃ b, b = decide (stL L true 24 = 1) := ⟨_, rfl⟩
  rw [← hb] at HON hno
  have HNO := Lib.hid hno
  obtain ⟨c0, c1, c2, c3, c4, f1⟩ := hq.tcells
  obtain ⟨e0, e1, e2, e3⟩ := hq.ecells
  obtain ⟨r0, r1, r2, r3, r4, f2⟩ := hq.rcells
  clear hW hs hq h hl hu hv hre he hb hno
  by_cases h5 : k = 5
  rotate_left
  · have h5 : (k == 5) = false := by simpa using h5
    go_enter Try.func28, Try.ntmps28
    go_upto_region 1 with fail
    rw [HW.out, ← HS.out]
    go_wp2_with fail
    (try simp only [Exit.inBlock, Exit.then])
    refine bodyPost_ret (results_row_tmp rfl _ _ (s + 1 + 1) _ rfl HQ.out.fin5) rfl ?_
    exact RTakeK.mk HS.out HQ.out (RowOf.nil _ _) (put5_turn _ _ _ _ _ _ _)
  subst h5
  by_cases h24 : o = 24
  rotate_left
  · have h24 : (o == 24) = false := by simpa using h24
    go_enter Try.func28, Try.ntmps28
    go_upto_region 1 with fail
    rw [HW.out, ← HS.out]
    go_wp2_with fail
    (try simp only [Exit.inBlock, Exit.then])
    refine bodyPost_ret (results_row_tmp rfl _ _ (s + 1 + 1) _ rfl HQ.out.fin5) rfl ?_
    exact RTakeK.mk HS.out HQ.out (RowOf.nil _ _) (put5_turn _ _ _ _ _ _ _)
  subst h24
  obtain ⟨ea', ec', hee, hre⟩ := HRE.out
  injection hee with hee1 hee2 hee3
  subst hee1 hee3
  by_cases h1 : en = 1
  rotate_left
  · have h1 : ((en : Int) == 1) = false := by simp; omega
    clear hre hee2
    go_enter Try.func28, Try.ntmps28
    go_upto_region 1 with fail
    rw [HW.out, ← HS.out]
    go_wp2_with fail
    (try simp only [Exit.inBlock, Exit.then])
    refine bodyPost_ret (results_row_tmp rfl _ _ (s + 1 + 1) _ rfl HQ.out.fin5) rfl ?_
    exact RTakeK.mk HS.out HQ.out (RowOf.nil _ _) (put5_turn _ _ _ _ _ _ _)
  subst h1
  obtain ⟨y, rfl⟩ : ∃ y, Lb = [y] := by
    match Lb, hee2 with
    | [y], _ => exact ⟨y, rfl⟩
  obtain ⟨gb, off, rfl, hc⟩ := hre (by simp)
  have d0 := hc 0 (by simp)
  simp only [Nat.add_zero, List.getElem?_cons_zero, Option.getD_some] at d0
  clear hre hc hee2
  by_cases hy : y = 1
  rotate_left
  · have hy : (y == 1) = false := by simpa using hy
    go_enter Try.func28, Try.ntmps28
    go_upto_region 1 with fail
    rw [HW.out, ← HS.out]
    go_wp2_with fail
    (try simp only [Exit.inBlock, Exit.then])
    refine bodyPost_ret (results_row_tmp rfl _ _ (s + 1 + 1) _ rfl HQ.out.fin5) rfl ?_
    exact RTakeK.mk HS.out HQ.out (RowOf.nil _ _) (put5_turn _ _ _ _ _ _ _)
  subst hy
  have hb : b = false := by have := HNO.out; simpa [asks] using this
  subst hb
  go_enter Try.func28, Try.ntmps28
  go_upto_region 1 with fail
  rw [HW.out, ← HS.out]
  go_wp2_with fail
  refine HON.out.mono ?_
  rintro e W1 ⟨rfl, b1⟩
  have HQ1 := Lib.hid (HQ.out.below b1)
  clear c0 c1 c2 c3 c4 f1 e0 e1 e2 e3 r0 r1 r2 r3 r4 f2 b1 d0
  obtain ⟨c0, c1, c2, c3, c4, f1⟩ := HQ1.out.tcells
  obtain ⟨r0, r1, r2, r3, r4, f2⟩ := HQ1.out.rcells
  go_wp2_with fail
  (try simp only [Exit.inBlock, Exit.then])
  refine bodyPost_ret (results_row_tmp rfl _ _ (s + 1 + 1) _ rfl HQ1.out.fin5) rfl ?_
  exact RTakeK.mk HS.out HQ1.out (RowOf.nil _ _) (put5_turn _ _ _ _ _ _ _)
set_option maxRecDepth 100000 in
set_option maxHeartbeats 16000000 in
theorem rtake_tell (base : Nat) (nm : ByteArray) (xa ua va ea : Option Addr) (xn xc un uc vn vc ec : Nat) (nd : Bool) (L : List One) (A B : List Int) (c : Int) (w : World) (h : OneRow base w (.slice xa xn xc) L) (hl : L.length ≤ 200)
    (hu : RowOf .u8 w (.slice ua un uc) A) (hv : RowOf .u8 w (.slice va vn vc) B) (he : RowOf .u8 w (.slice ea 1 ec) [1]) (hno : decide (stL L true 24 = 1) = true) (hns : nm.size ≤ 1000) :
    Calls Try.prog 28 #[.agg #[.string nm, .slice xa xn xc, .slice ua un uc, .slice va vn vc, .bool nd], .agg #[.int .i64 5, .int .u8 c, .int .u8 24, .slice ea 1 ec]] w (RTakeK base nm (.slice ua un uc) (.slice va vn vc) (L, true, [255, 250, 24, 0] ++ nums nm ++ [255, 240]) w) := by
  have hzero := (zero_of_info info_rt).1
  have hq := uq_new (nm := nm) (nd := nd) (E := #[.int .i64 5, .int .u8 c, .int .u8 24, .slice ea 1 ec]) h hu hv
  obtain ⟨W0, hW⟩ : ∃ W0, W0 = ((w.alloc (.cells (rtC nm (.slice xa xn xc) (.slice ua un uc) (.slice va vn vc) nd) 48)).alloc (.cells #[.int .i64 5, .int .u8 c, .int .u8 24, .slice ea 1 ec] 32)).alloc (.cells R0 48) := ⟨_, rfl⟩
  obtain ⟨s, hs⟩ : ∃ s, s = w.heap.size := ⟨_, rfl⟩
  rw [← hW, ← hs] at hq
  have hre : RowOf .u8 W0 (.slice ea 1 ec) [1] := he.below (hs ▸ hq.old)
  unfold rtC R0 at hW
  have HW := Lib.hid hW.symm
  have HS := Lib.hid hs
  have HQ := Lib.hid hq
  have HRE := Lib.hid hre
  have HON := Lib.hid (ron_any base nm _ (.slice ua un uc) (.slice va vn vc) nd L true 24 W0 hq.row (by omega))
  have HL200 := Lib.hid hl
  obtain ⟨b, hb⟩ : ∃ b, b = decide (stL L true 24 = 1) := ⟨_, rfl⟩
  rw [← hb] at HON hno
  have HNO := Lib.hid hno
  obtain ⟨c0, c1, c2, c3, c4, f1⟩ := hq.tcells
  obtain ⟨e0, e1, e2, e3⟩ := hq.ecells
  obtain ⟨r0, r1, r2, r3, r4, f2⟩ := hq.rcells
  clear hW hs hq h hl hu hv hre he hb hno
  have HNS := Lib.hid hns
  clear hns
  obtain rfl : b = true := HNO.out
  obtain ⟨ea', ec', hee, hre⟩ := HRE.out
  injection hee with hee1 hee2 hee3
  subst hee1 hee3
  obtain ⟨gb, off, rfl, hc⟩ := hre (by simp)
  have d0 := hc 0 (by simp)
  simp only [Nat.add_zero, List.getElem?_cons_zero, Option.getD_some] at d0
  clear hre hc hee2
  go_enter Try.func28, Try.ntmps28
  go_upto_region 1 with fail
  rw [HW.out, ← HS.out]
  go_wp2_with fail
  refine HON.out.mono ?_
  rintro e W1 ⟨rfl, b1⟩
  have HQ1 := Lib.hid (HQ.out.below b1)
  clear c0 c1 c2 c3 c4 f1 e0 e1 e2 e3 r0 r1 r2 r3 r4 f2 b1 d0
  obtain ⟨c0, c1, c2, c3, c4, f1⟩ := HQ1.out.tcells
  go_upto_region 9 with fail
  have HQ2 := Lib.hid (HQ1.out.putNd true).drew'
  obtain ⟨Z0, hZ0⟩ : ∃ Y, Y = (W1.setCell ⟨s, 4, none⟩ (.bool true)).drew := ⟨_, rfl⟩
  refine wp_region_held_drew (S := (fun Z => Z.cell? ⟨s, 0, none⟩ = some (.string nm) ∧ Z.cell? ⟨s, 1, none⟩ = some (.slice xa xn xc) ∧ Z.cell? ⟨s, 2, none⟩ = some (.slice ua un uc) ∧ Z.cell? ⟨s, 3, none⟩ = some (.slice va vn vc) ∧ Z.cell? ⟨s, 4, none⟩ = some (.bool true))) (by kernel_rfl) (HQ1.out.putNd true).drew'.s5 (fun hHeld => ?_)
  rw [← hZ0] at HQ2 hHeld ⊢
  clear hZ0 c0 c1 c2 c3 c4 f1 HQ1 HQ
  have HQ0 := HQ2
  clear HQ2
  refine wpAnyH_take (i := 0) (oi := { dst := some 55, op := Op.load 48 (Operand.tmp 2), type := 48, pos := "ref.go:54", after := #[], guard := none }) (v := ?_) rfl (by kernel_rfl) (by kernel_rfl) (by kernel_rfl) (fun _ _ _ h => h) (Or.inl ⟨by rfl, ?_⟩) (by assumption) ?_
  rotate_left
  focus (intro w hSw; (try dsimp only at hSw); go_simp; try (with_reducible rfl))
  try simp only [Act.put, List.setIfInBounds_toArray, List.set_cons_zero, List.set_cons_succ]
  refine wpAnyH_take (i := 2) (oi := { dst := some 57, op := Op.fieldAddr 48 (Operand.tmp 2) 0, type := 0, pos := "ref.go:54", after := #[], guard := none }) (v := ?_) rfl (by kernel_rfl) (by kernel_rfl) (by kernel_rfl) (fun _ _ _ h => h) (Or.inl ⟨by rfl, ?_⟩) (by assumption) ?_
  rotate_left
  focus (intro w hSw; (try dsimp only at hSw); go_simp; try (with_reducible rfl))
  try simp only [Act.put, List.setIfInBounds_toArray, List.set_cons_zero, List.set_cons_succ]
  refine wpAnyH_take (i := 3) (oi := { dst := some 58, op := Op.load 9 (Operand.tmp 57), type := 9, pos := "ref.go:54", after := #[{ on := 2, ground := Ground.data }], guard := none }) (v := ?_) rfl (by kernel_rfl) (by kernel_rfl) (by kernel_rfl) (fun _ _ _ h => h) (Or.inl ⟨by rfl, ?_⟩) (by assumption) ?_
  rotate_left
  focus (intro w hSw; (try dsimp only at hSw); go_simp; try (with_reducible rfl))
  try simp only [Act.put, List.setIfInBounds_toArray, List.set_cons_zero, List.set_cons_succ]
  refine wpAnyH_ready (rs := [1, 4, 5]) (by kernel_rfl) (by simp) (AllReadyH.cons (o := { dst := some 56, op := Op.buildSlice 24 4 #[(0, Operand.const (Value.int IntKind.u8 255)), (1, Operand.const (Value.int IntKind.u8 250)), (2, Operand.const (Value.int IntKind.u8 24)), (3, Operand.const (Value.int IntKind.u8 0))], type := 24, pos := "ref.go:54", after := #[], guard := none }) rfl (fun K hK => ?_) (AllReadyH.cons (o := { dst := some 59, op := Op.convert 9 24 (Operand.tmp 58), type := 24, pos := "ref.go:54", after := #[{ on := 3, ground := Ground.data }], guard := none }) rfl (fun K hK => ?_) (AllReadyH.cons (o := { dst := some 60, op := Op.buildSlice 24 2 #[(0, Operand.const (Value.int IntKind.u8 255)), (1, Operand.const (Value.int IntKind.u8 240))], type := 24, pos := "ref.go:54", after := #[], guard := none }) rfl (fun K hK => ?_) AllReadyH.nil)))
  · rw [if_pos (by rfl)]
    go_simp
    have t0 := below_alloc Z0 (.cells #[.int .u8 255, .int .u8 250, .int .u8 24, .int .u8 0] 5)
    refine hK.out _ _ (HQ0.out.below t0).s5 (fun hHeld => ?_)
    clear hK K
    try simp only [Act.put, List.setIfInBounds_toArray, List.set_cons_zero, List.set_cons_succ]
    have RA1 := Lib.hid (row_lit Z0 [255, 250, 24, 0] #[.int .u8 255, .int .u8 250, .int .u8 24, .int .u8 0] rfl 4 4 rfl)
    have HQ1 := Lib.hid (HQ0.out.below t0)
    clear HQ0
    obtain ⟨Z1, hZ⟩ : ∃ Y, Y = Z0.alloc (.cells #[.int .u8 255, .int .u8 250, .int .u8 24, .int .u8 0] 5) := ⟨_, rfl⟩
    obtain ⟨ga, hg⟩ : ∃ g, g = Z0.heap.size := ⟨_, rfl⟩
    rw [← hZ] at HQ1 RA1 hHeld ⊢
    rw [← hg] at RA1 ⊢
    clear t0 hZ hg
    refine wpAnyH_ready (rs := [4, 5]) (by kernel_rfl) (by simp) (AllReadyH.cons (o := { dst := some 59, op := Op.convert 9 24 (Operand.tmp 58), type := 24, pos := "ref.go:54", after := #[{ on := 3, ground := Ground.data }], guard := none }) rfl (fun K hK => ?_) (AllReadyH.cons (o := { dst := some 60, op := Op.buildSlice 24 2 #[(0, Operand.const (Value.int IntKind.u8 255)), (1, Operand.const (Value.int IntKind.u8 240))], type := 24, pos := "ref.go:54", after := #[], guard := none }) rfl (fun K hK => ?_) AllReadyH.nil))
    · obtain ⟨cap, Z2, hrun, hcv, t1, _⟩ := conv_row nm Z1
      rw [if_pos (by rfl)]
      go_simp
      refine hK.out _ _ (HQ1.out.below t1).s5 (fun hHeld => ?_)
      clear hK K hrun
      try simp only [Act.put, List.setIfInBounds_toArray, List.set_cons_zero, List.set_cons_succ]
      have RN2 := Lib.hid (hcv.row (cap := cap) (nums nm) (nums_length nm).symm (fun _ _ => rfl))
      have HQ2 := Lib.hid (HQ1.out.below t1)
      have RA2 := Lib.hid (RA1.out.below t1)
      clear HQ1 RA1
      obtain ⟨gn, hg⟩ : ∃ g, g = Z1.heap.size := ⟨_, rfl⟩
      rw [← hg] at RN2 ⊢
      clear t1 hg hcv
      refine wpAnyH_ready (rs := [5]) (by kernel_rfl) (by simp) (AllReadyH.cons (o := { dst := some 60, op := Op.buildSlice 24 2 #[(0, Operand.const (Value.int IntKind.u8 255)), (1, Operand.const (Value.int IntKind.u8 240))], type := 24, pos := "ref.go:54", after := #[], guard := none }) rfl (fun K hK => ?_) AllReadyH.nil)
      rw [if_pos (by rfl)]
      go_simp
      have t2 := below_alloc Z2 (.cells #[.int .u8 255, .int .u8 240] 5)
      refine hK.out _ _ (HQ2.out.below t2).s5 (fun hHeld => ?_)
      clear hK K
      try simp only [Act.put, List.setIfInBounds_toArray, List.set_cons_zero, List.set_cons_succ]
      have RE3 := Lib.hid (row_lit Z2 [255, 240] #[.int .u8 255, .int .u8 240] rfl 2 2 rfl)
      have HQ3 := Lib.hid (HQ2.out.below t2)
      have RA3 := Lib.hid (RA2.out.below t2)
      have RN3 := Lib.hid (RN2.out.below t2)
      clear HQ2 RA2 RN2
      obtain ⟨Z3, hZ⟩ : ∃ Y, Y = Z2.alloc (.cells #[.int .u8 255, .int .u8 240] 5) := ⟨_, rfl⟩
      obtain ⟨ge, hg⟩ : ∃ g, g = Z2.heap.size := ⟨_, rfl⟩
      rw [← hZ] at HQ3 RA3 RN3 RE3 hHeld ⊢
      rw [← hg] at RE3 ⊢
      clear t2 hZ hg
      refine wpAnyH_ready (rs := [6]) (by kernel_rfl) (by simp) (AllReadyH.cons (o := { dst := some 61, op := Op.buildSlice 65 3 #[(0, Operand.tmp 56), (1, Operand.tmp 59), (2, Operand.tmp 60)], type := 65, pos := "ref.go:54", after := #[{ on := 1, ground := Ground.data }, { on := 4, ground := Ground.data }, { on := 5, ground := Ground.data }], guard := none }) rfl (fun K hK => ?_) AllReadyH.nil)
      rw [if_pos (by rfl)]
      go_simp
      have t3 := below_alloc Z3 (.cells #[.slice (some ⟨ga, 0, none⟩) 4 4, .slice (some ⟨gn, 0, none⟩) nm.size cap, .slice (some ⟨ge, 0, none⟩) 2 2] 24)
      refine hK.out _ _ (HQ3.out.below t3).s5 (fun hHeld => ?_)
      clear hK K
      try simp only [Act.put, List.setIfInBounds_toArray, List.set_cons_zero, List.set_cons_succ]
      have RR4 := Lib.hid (rows3 Z3 _ _ _ _ _ _ RA3.out RN3.out RE3.out)
      have HQ4 := Lib.hid (HQ3.out.below t3)
      have RA4 := Lib.hid (RA3.out.below t3)
      have RN4 := Lib.hid (RN3.out.below t3)
      have RE4 := Lib.hid (RE3.out.below t3)
      clear HQ3 RA3 RN3 RE3
      obtain ⟨Z4, hZ⟩ : ∃ Y, Y = Z3.alloc (.cells #[.slice (some ⟨ga, 0, none⟩) 4 4, .slice (some ⟨gn, 0, none⟩) nm.size cap, .slice (some ⟨ge, 0, none⟩) 2 2] 24) := ⟨_, rfl⟩
      obtain ⟨gr, hg⟩ : ∃ g, g = Z3.heap.size := ⟨_, rfl⟩
      rw [← hZ] at HQ4 RA4 RN4 RE4 RR4 hHeld ⊢
      rw [← hg] at RR4 ⊢
      clear t3 hZ hg
      refine wpAnyH_ready (rs := [7]) (by kernel_rfl) (by simp) (AllReadyH.cons (o := { dst := some 62, op := Op.call { callee := Callee.value (Operand.func 64), args := #[Operand.tmp 61], argTypes := #[65] }, type := 24, pos := "ref.go:54", after := #[{ on := 6, ground := Ground.data }], guard := none }) rfl (fun K hK => ?_) AllReadyH.nil)
      rw [if_pos (by rfl)]
      go_simp
      (go_at_call 64; refine (Iac.rjoin_any _ [[255, 250, 24, 0], nums nm, [255, 240]] _ RR4.out (by simp) (by have := HNS.out; simp [nums_length]; omega)).mono ?_; rintro e Z5 ⟨pj, rfl, hp, t4⟩)
      go_wp2_with fail
      refine hK.out _ _ (HQ4.out.below t4).s5 (fun hHeld => ?_)
      clear hK K
      try simp only [Act.put, List.setIfInBounds_toArray, List.set_cons_zero, List.set_cons_succ]
      have RJ5 := Lib.hid hp.row
      have HQ5 := Lib.hid (HQ4.out.below t4)
      clear HQ4
      clear t4 hp
      refine wpAnyH_ready (rs := [8]) (by kernel_rfl) (by simp) (AllReadyH.cons (o := { dst := none, op := Op.store 48 (Operand.tmp 4) (Operand.tmp 55), type := 0, pos := "ref.go:54", after := #[{ on := 0, ground := Ground.data }, { on := 7, ground := Ground.chain }, { on := 0, ground := Ground.phase }, { on := 1, ground := Ground.textOnly Departure.lateStores }, { on := 2, ground := Ground.textOnly Departure.lateStores }, { on := 3, ground := Ground.textOnly Departure.lateStores }, { on := 4, ground := Ground.textOnly Departure.lateStores }, { on := 5, ground := Ground.textOnly Departure.lateStores }, { on := 6, ground := Ground.textOnly Departure.lateStores }, { on := 7, ground := Ground.textOnly Departure.lateStoresUnsure }], guard := none }) rfl (fun K hK => ?_) AllReadyH.nil)
      obtain ⟨r0, r1, r2, r3, r4, f2⟩ := HQ5.out.rcells
      rw [if_pos (by rfl)]
      go_simp
      refine hK.out _ _ HQ5.out.fin_s5 (fun hHeld => ?_)
      clear hK K r0 r1 r2 r3 r4 f2
      try simp only [Act.put, List.setIfInBounds_toArray, List.set_cons_zero, List.set_cons_succ]
      refine wpAnyH_take (i := 9) (oi := { dst := some 5, op := Op.assign (Operand.tmp 62), type := 24, pos := "ref.go:54", after := #[{ on := 7, ground := Ground.data }, { on := 8, ground := Ground.chain }, { on := 0, ground := Ground.phase }, { on := 1, ground := Ground.phase }, { on := 2, ground := Ground.phase }, { on := 3, ground := Ground.phase }, { on := 4, ground := Ground.phase }, { on := 5, ground := Ground.phase }, { on := 6, ground := Ground.phase }, { on := 7, ground := Ground.phase }, { on := 8, ground := Ground.phase }], guard := none }) (v := ?_) rfl (by kernel_rfl) (by kernel_rfl) (by kernel_rfl) (fun _ _ _ h => h) (Or.inl ⟨by rfl, ?_⟩) (by assumption) ?_
      rotate_left
      focus (intro w hSw; (try dsimp only at hSw); go_simp; try (with_reducible rfl))
      try simp only [Act.put, List.setIfInBounds_toArray, List.set_cons_zero, List.set_cons_succ]
      refine wpAnyH_done (by kernel_rfl) ?_ _
      go_wp2_with fail
      (try simp only [Exit.inBlock, Exit.then])
      refine bodyPost_ret (results_row_tmp rfl _ _ (s + 1 + 1) _ rfl HQ5.out.fin5) rfl ?_
      have hfin := RTakeK.mk HS.out HQ5.out RJ5.out (put5_turn Z5 (s + 1 + 1) (.string nm) (.slice xa xn xc) (.slice ua un uc) (.slice va vn vc) (.bool true))
      unfold put5 at hfin
      simpa using hfin
    · rw [if_pos (by rfl)]
      go_simp
      have t1 := below_alloc Z1 (.cells #[.int .u8 255, .int .u8 240] 5)
      refine hK.out _ _ (HQ1.out.below t1).s5 (fun hHeld => ?_)
      clear hK K
      try simp only [Act.put, List.setIfInBounds_toArray, List.set_cons_zero, List.set_cons_succ]
      have RE2 := Lib.hid (row_lit Z1 [255, 240] #[.int .u8 255, .int .u8 240] rfl 2 2 rfl)
      have HQ2 := Lib.hid (HQ1.out.below t1)
      have RA2 := Lib.hid (RA1.out.below t1)
      clear HQ1 RA1
      obtain ⟨Z2, hZ⟩ : ∃ Y, Y = Z1.alloc (.cells #[.int .u8 255, .int .u8 240] 5) := ⟨_, rfl⟩
      obtain ⟨ge, hg⟩ : ∃ g, g = Z1.heap.size := ⟨_, rfl⟩
      rw [← hZ] at HQ2 RA2 RE2 hHeld ⊢
      rw [← hg] at RE2 ⊢
      clear t1 hZ hg
      refine wpAnyH_ready (rs := [4]) (by kernel_rfl) (by simp) (AllReadyH.cons (o := { dst := some 59, op := Op.convert 9 24 (Operand.tmp 58), type := 24, pos := "ref.go:54", after := #[{ on := 3, ground := Ground.data }], guard := none }) rfl (fun K hK => ?_) AllReadyH.nil)
      obtain ⟨cap, Z3, hrun, hcv, t2, _⟩ := conv_row nm Z2
      rw [if_pos (by rfl)]
      go_simp
      refine hK.out _ _ (HQ2.out.below t2).s5 (fun hHeld => ?_)
      clear hK K hrun
      try simp only [Act.put, List.setIfInBounds_toArray, List.set_cons_zero, List.set_cons_succ]
      have RN3 := Lib.hid (hcv.row (cap := cap) (nums nm) (nums_length nm).symm (fun _ _ => rfl))
      have HQ3 := Lib.hid (HQ2.out.below t2)
      have RA3 := Lib.hid (RA2.out.below t2)
      have RE3 := Lib.hid (RE2.out.below t2)
      clear HQ2 RA2 RE2
      obtain ⟨gn, hg⟩ : ∃ g, g = Z2.heap.size := ⟨_, rfl⟩
      rw [← hg] at RN3 ⊢
      clear t2 hg hcv
      refine wpAnyH_ready (rs := [6]) (by kernel_rfl) (by simp) (AllReadyH.cons (o := { dst := some 61, op := Op.buildSlice 65 3 #[(0, Operand.tmp 56), (1, Operand.tmp 59), (2, Operand.tmp 60)], type := 65, pos := "ref.go:54", after := #[{ on := 1, ground := Ground.data }, { on := 4, ground := Ground.data }, { on := 5, ground := Ground.data }], guard := none }) rfl (fun K hK => ?_) AllReadyH.nil)
      rw [if_pos (by rfl)]
      go_simp
      have t3 := below_alloc Z3 (.cells #[.slice (some ⟨ga, 0, none⟩) 4 4, .slice (some ⟨gn, 0, none⟩) nm.size cap, .slice (some ⟨ge, 0, none⟩) 2 2] 24)
      refine hK.out _ _ (HQ3.out.below t3).s5 (fun hHeld => ?_)
      clear hK K
      try simp only [Act.put, List.setIfInBounds_toArray, List.set_cons_zero, List.set_cons_succ]
      have RR4 := Lib.hid (rows3 Z3 _ _ _ _ _ _ RA3.out RN3.out RE3.out)
      have HQ4 := Lib.hid (HQ3.out.below t3)
      have RA4 := Lib.hid (RA3.out.below t3)
      have RE4 := Lib.hid (RE3.out.below t3)
      have RN4 := Lib.hid (RN3.out.below t3)
      clear HQ3 RA3 RE3 RN3
      obtain ⟨Z4, hZ⟩ : ∃ Y, Y = Z3.alloc (.cells #[.slice (some ⟨ga, 0, none⟩) 4 4, .slice (some ⟨gn, 0, none⟩) nm.size cap, .slice (some ⟨ge, 0, none⟩) 2 2] 24) := ⟨_, rfl⟩
      obtain ⟨gr, hg⟩ : ∃ g, g = Z3.heap.size := ⟨_, rfl⟩
      rw [← hZ] at HQ4 RA4 RE4 RN4 RR4 hHeld ⊢
      rw [← hg] at RR4 ⊢
      clear t3 hZ hg
      refine wpAnyH_ready (rs := [7]) (by kernel_rfl) (by simp) (AllReadyH.cons (o := { dst := some 62, op := Op.call { callee := Callee.value (Operand.func 64), args := #[Operand.tmp 61], argTypes := #[65] }, type := 24, pos := "ref.go:54", after := #[{ on := 6, ground := Ground.data }], guard := none }) rfl (fun K hK => ?_) AllReadyH.nil)
      rw [if_pos (by rfl)]
      go_simp
      (go_at_call 64; refine (Iac.rjoin_any _ [[255, 250, 24, 0], nums nm, [255, 240]] _ RR4.out (by simp) (by have := HNS.out; simp [nums_length]; omega)).mono ?_; rintro e Z5 ⟨pj, rfl, hp, t4⟩)
      go_wp2_with fail
      refine hK.out _ _ (HQ4.out.below t4).s5 (fun hHeld => ?_)
      clear hK K
      try simp only [Act.put, List.setIfInBounds_toArray, List.set_cons_zero, List.set_cons_succ]
      have RJ5 := Lib.hid hp.row
      have HQ5 := Lib.hid (HQ4.out.below t4)
      clear HQ4
      clear t4 hp
      refine wpAnyH_ready (rs := [8]) (by kernel_rfl) (by simp) (AllReadyH.cons (o := { dst := none, op := Op.store 48 (Operand.tmp 4) (Operand.tmp 55), type := 0, pos := "ref.go:54", after := #[{ on := 0, ground := Ground.data }, { on := 7, ground := Ground.chain }, { on := 0, ground := Ground.phase }, { on := 1, ground := Ground.textOnly Departure.lateStores }, { on := 2, ground := Ground.textOnly Departure.lateStores }, { on := 3, ground := Ground.textOnly Departure.lateStores }, { on := 4, ground := Ground.textOnly Departure.lateStores }, { on := 5, ground := Ground.textOnly Departure.lateStores }, { on := 6, ground := Ground.textOnly Departure.lateStores }, { on := 7, ground := Ground.textOnly Departure.lateStoresUnsure }], guard := none }) rfl (fun K hK => ?_) AllReadyH.nil)
      obtain ⟨r0, r1, r2, r3, r4, f2⟩ := HQ5.out.rcells
      rw [if_pos (by rfl)]
      go_simp
      refine hK.out _ _ HQ5.out.fin_s5 (fun hHeld => ?_)
      clear hK K r0 r1 r2 r3 r4 f2
      try simp only [Act.put, List.setIfInBounds_toArray, List.set_cons_zero, List.set_cons_succ]
      refine wpAnyH_take (i := 9) (oi := { dst := some 5, op := Op.assign (Operand.tmp 62), type := 24, pos := "ref.go:54", after := #[{ on := 7, ground := Ground.data }, { on := 8, ground := Ground.chain }, { on := 0, ground := Ground.phase }, { on := 1, ground := Ground.phase }, { on := 2, ground := Ground.phase }, { on := 3, ground := Ground.phase }, { on := 4, ground := Ground.phase }, { on := 5, ground := Ground.phase }, { on := 6, ground := Ground.phase }, { on := 7, ground := Ground.phase }, { on := 8, ground := Ground.phase }], guard := none }) (v := ?_) rfl (by kernel_rfl) (by kernel_rfl) (by kernel_rfl) (fun _ _ _ h => h) (Or.inl ⟨by rfl, ?_⟩) (by assumption) ?_
      rotate_left
      focus (intro w hSw; (try dsimp only at hSw); go_simp; try (with_reducible rfl))
      try simp only [Act.put, List.setIfInBounds_toArray, List.set_cons_zero, List.set_cons_succ]
      refine wpAnyH_done (by kernel_rfl) ?_ _
      go_wp2_with fail
      (try simp only [Exit.inBlock, Exit.then])
      refine bodyPost_ret (results_row_tmp rfl _ _ (s + 1 + 1) _ rfl HQ5.out.fin5) rfl ?_
      have hfin := RTakeK.mk HS.out HQ5.out RJ5.out (put5_turn Z5 (s + 1 + 1) (.string nm) (.slice xa xn xc) (.slice ua un uc) (.slice va vn vc) (.bool true))
      unfold put5 at hfin
      simpa using hfin
  · obtain ⟨cap, Z1, hrun, hcv, t0, _⟩ := conv_row nm Z0
    rw [if_pos (by rfl)]
    go_simp
    refine hK.out _ _ (HQ0.out.below t0).s5 (fun hHeld => ?_)
    clear hK K hrun
    try simp only [Act.put, List.setIfInBounds_toArray, List.set_cons_zero, List.set_cons_succ]
    have RN1 := Lib.hid (hcv.row (cap := cap) (nums nm) (nums_length nm).symm (fun _ _ => rfl))
    have HQ1 := Lib.hid (HQ0.out.below t0)
    clear HQ0
    obtain ⟨gn, hg⟩ : ∃ g, g = Z0.heap.size := ⟨_, rfl⟩
    rw [← hg] at RN1 ⊢
    clear t0 hg hcv
    refine wpAnyH_ready (rs := [1, 5]) (by kernel_rfl) (by simp) (AllReadyH.cons (o := { dst := some 56, op := Op.buildSlice 24 4 #[(0, Operand.const (Value.int IntKind.u8 255)), (1, Operand.const (Value.int IntKind.u8 250)), (2, Operand.const (Value.int IntKind.u8 24)), (3, Operand.const (Value.int IntKind.u8 0))], type := 24, pos := "ref.go:54", after := #[], guard := none }) rfl (fun K hK => ?_) (AllReadyH.cons (o := { dst := some 60, op := Op.buildSlice 24 2 #[(0, Operand.const (Value.int IntKind.u8 255)), (1, Operand.const (Value.int IntKind.u8 240))], type := 24, pos := "ref.go:54", after := #[], guard := none }) rfl (fun K hK => ?_) AllReadyH.nil))
    · rw [if_pos (by rfl)]
      go_simp
      have t1 := below_alloc Z1 (.cells #[.int .u8 255, .int .u8 250, .int .u8 24, .int .u8 0] 5)
      refine hK.out _ _ (HQ1.out.below t1).s5 (fun hHeld => ?_)
      clear hK K
      try simp only [Act.put, List.setIfInBounds_toArray, List.set_cons_zero, List.set_cons_succ]
      have RA2 := Lib.hid (row_lit Z1 [255, 250, 24, 0] #[.int .u8 255, .int .u8 250, .int .u8 24, .int .u8 0] rfl 4 4 rfl)
      have HQ2 := Lib.hid (HQ1.out.below t1)
      have RN2 := Lib.hid (RN1.out.below t1)
      clear HQ1 RN1
      obtain ⟨Z2, hZ⟩ : ∃ Y, Y = Z1.alloc (.cells #[.int .u8 255, .int .u8 250, .int .u8 24, .int .u8 0] 5) := ⟨_, rfl⟩
      obtain ⟨ga, hg⟩ : ∃ g, g = Z1.heap.size := ⟨_, rfl⟩
      rw [← hZ] at HQ2 RN2 RA2 hHeld ⊢
      rw [← hg] at RA2 ⊢
      clear t1 hZ hg
      refine wpAnyH_ready (rs := [5]) (by kernel_rfl) (by simp) (AllReadyH.cons (o := { dst := some 60, op := Op.buildSlice 24 2 #[(0, Operand.const (Value.int IntKind.u8 255)), (1, Operand.const (Value.int IntKind.u8 240))], type := 24, pos := "ref.go:54", after := #[], guard := none }) rfl (fun K hK => ?_) AllReadyH.nil)
      rw [if_pos (by rfl)]
      go_simp
      have t2 := below_alloc Z2 (.cells #[.int .u8 255, .int .u8 240] 5)
      refine hK.out _ _ (HQ2.out.below t2).s5 (fun hHeld => ?_)
      clear hK K
      try simp only [Act.put, List.setIfInBounds_toArray, List.set_cons_zero, List.set_cons_succ]
      have RE3 := Lib.hid (row_lit Z2 [255, 240] #[.int .u8 255, .int .u8 240] rfl 2 2 rfl)
      have HQ3 := Lib.hid (HQ2.out.below t2)
      have RN3 := Lib.hid (RN2.out.below t2)
      have RA3 := Lib.hid (RA2.out.below t2)
      clear HQ2 RN2 RA2
      obtain ⟨Z3, hZ⟩ : ∃ Y, Y = Z2.alloc (.cells #[.int .u8 255, .int .u8 240] 5) := ⟨_, rfl⟩
      obtain ⟨ge, hg⟩ : ∃ g, g = Z2.heap.size := ⟨_, rfl⟩
      rw [← hZ] at HQ3 RN3 RA3 RE3 hHeld ⊢
      rw [← hg] at RE3 ⊢
      clear t2 hZ hg
      refine wpAnyH_ready (rs := [6]) (by kernel_rfl) (by simp) (AllReadyH.cons (o := { dst := some 61, op := Op.buildSlice 65 3 #[(0, Operand.tmp 56), (1, Operand.tmp 59), (2, Operand.tmp 60)], type := 65, pos := "ref.go:54", after := #[{ on := 1, ground := Ground.data }, { on := 4, ground := Ground.data }, { on := 5, ground := Ground.data }], guard := none }) rfl (fun K hK => ?_) AllReadyH.nil)
      rw [if_pos (by rfl)]
      go_simp
      have t3 := below_alloc Z3 (.cells #[.slice (some ⟨ga, 0, none⟩) 4 4, .slice (some ⟨gn, 0, none⟩) nm.size cap, .slice (some ⟨ge, 0, none⟩) 2 2] 24)
      refine hK.out _ _ (HQ3.out.below t3).s5 (fun hHeld => ?_)
      clear hK K
      try simp only [Act.put, List.setIfInBounds_toArray, List.set_cons_zero, List.set_cons_succ]
      have RR4 := Lib.hid (rows3 Z3 _ _ _ _ _ _ RA3.out RN3.out RE3.out)
      have HQ4 := Lib.hid (HQ3.out.below t3)
      have RN4 := Lib.hid (RN3.out.below t3)
      have RA4 := Lib.hid (RA3.out.below t3)
      have RE4 := Lib.hid (RE3.out.below t3)
      clear HQ3 RN3 RA3 RE3
      obtain ⟨Z4, hZ⟩ : ∃ Y, Y = Z3.alloc (.cells #[.slice (some ⟨ga, 0, none⟩) 4 4, .slice (some ⟨gn, 0, none⟩) nm.size cap, .slice (some ⟨ge, 0, none⟩) 2 2] 24) := ⟨_, rfl⟩
      obtain ⟨gr, hg⟩ : ∃ g, g = Z3.heap.size := ⟨_, rfl⟩
      rw [← hZ] at HQ4 RN4 RA4 RE4 RR4 hHeld ⊢
      rw [← hg] at RR4 ⊢
      clear t3 hZ hg
      refine wpAnyH_ready (rs := [7]) (by kernel_rfl) (by simp) (AllReadyH.cons (o := { dst := some 62, op := Op.call { callee := Callee.value (Operand.func 64), args := #[Operand.tmp 61], argTypes := #[65] }, type := 24, pos := "ref.go:54", after := #[{ on := 6, ground := Ground.data }], guard := none }) rfl (fun K hK => ?_) AllReadyH.nil)
      rw [if_pos (by rfl)]
      go_simp
      (go_at_call 64; refine (Iac.rjoin_any _ [[255, 250, 24, 0], nums nm, [255, 240]] _ RR4.out (by simp) (by have := HNS.out; simp [nums_length]; omega)).mono ?_; rintro e Z5 ⟨pj, rfl, hp, t4⟩)
      go_wp2_with fail
      refine hK.out _ _ (HQ4.out.below t4).s5 (fun hHeld => ?_)
      clear hK K
      try simp only [Act.put, List.setIfInBounds_toArray, List.set_cons_zero, List.set_cons_succ]
      have RJ5 := Lib.hid hp.row
      have HQ5 := Lib.hid (HQ4.out.below t4)
      clear HQ4
      clear t4 hp
      refine wpAnyH_ready (rs := [8]) (by kernel_rfl) (by simp) (AllReadyH.cons (o := { dst := none, op := Op.store 48 (Operand.tmp 4) (Operand.tmp 55), type := 0, pos := "ref.go:54", after := #[{ on := 0, ground := Ground.data }, { on := 7, ground := Ground.chain }, { on := 0, ground := Ground.phase }, { on := 1, ground := Ground.textOnly Departure.lateStores }, { on := 2, ground := Ground.textOnly Departure.lateStores }, { on := 3, ground := Ground.textOnly Departure.lateStores }, { on := 4, ground := Ground.textOnly Departure.lateStores }, { on := 5, ground := Ground.textOnly Departure.lateStores }, { on := 6, ground := Ground.textOnly Departure.lateStores }, { on := 7, ground := Ground.textOnly Departure.lateStoresUnsure }], guard := none }) rfl (fun K hK => ?_) AllReadyH.nil)
      obtain ⟨r0, r1, r2, r3, r4, f2⟩ := HQ5.out.rcells
      rw [if_pos (by rfl)]
      go_simp
      refine hK.out _ _ HQ5.out.fin_s5 (fun hHeld => ?_)
      clear hK K r0 r1 r2 r3 r4 f2
      try simp only [Act.put, List.setIfInBounds_toArray, List.set_cons_zero, List.set_cons_succ]
      refine wpAnyH_take (i := 9) (oi := { dst := some 5, op := Op.assign (Operand.tmp 62), type := 24, pos := "ref.go:54", after := #[{ on := 7, ground := Ground.data }, { on := 8, ground := Ground.chain }, { on := 0, ground := Ground.phase }, { on := 1, ground := Ground.phase }, { on := 2, ground := Ground.phase }, { on := 3, ground := Ground.phase }, { on := 4, ground := Ground.phase }, { on := 5, ground := Ground.phase }, { on := 6, ground := Ground.phase }, { on := 7, ground := Ground.phase }, { on := 8, ground := Ground.phase }], guard := none }) (v := ?_) rfl (by kernel_rfl) (by kernel_rfl) (by kernel_rfl) (fun _ _ _ h => h) (Or.inl ⟨by rfl, ?_⟩) (by assumption) ?_
      rotate_left
      focus (intro w hSw; (try dsimp only at hSw); go_simp; try (with_reducible rfl))
      try simp only [Act.put, List.setIfInBounds_toArray, List.set_cons_zero, List.set_cons_succ]
      refine wpAnyH_done (by kernel_rfl) ?_ _
      go_wp2_with fail
      (try simp only [Exit.inBlock, Exit.then])
      refine bodyPost_ret (results_row_tmp rfl _ _ (s + 1 + 1) _ rfl HQ5.out.fin5) rfl ?_
      have hfin := RTakeK.mk HS.out HQ5.out RJ5.out (put5_turn Z5 (s + 1 + 1) (.string nm) (.slice xa xn xc) (.slice ua un uc) (.slice va vn vc) (.bool true))
      unfold put5 at hfin
      simpa using hfin
    · rw [if_pos (by rfl)]
      go_simp
      have t1 := below_alloc Z1 (.cells #[.int .u8 255, .int .u8 240] 5)
      refine hK.out _ _ (HQ1.out.below t1).s5 (fun hHeld => ?_)
      clear hK K
      try simp only [Act.put, List.setIfInBounds_toArray, List.set_cons_zero, List.set_cons_succ]
      have RE2 := Lib.hid (row_lit Z1 [255, 240] #[.int .u8 255, .int .u8 240] rfl 2 2 rfl)
      have HQ2 := Lib.hid (HQ1.out.below t1)
      have RN2 := Lib.hid (RN1.out.below t1)
      clear HQ1 RN1
      obtain ⟨Z2, hZ⟩ : ∃ Y, Y = Z1.alloc (.cells #[.int .u8 255, .int .u8 240] 5) := ⟨_, rfl⟩
      obtain ⟨ge, hg⟩ : ∃ g, g = Z1.heap.size := ⟨_, rfl⟩
      rw [← hZ] at HQ2 RN2 RE2 hHeld ⊢
      rw [← hg] at RE2 ⊢
      clear t1 hZ hg
      refine wpAnyH_ready (rs := [1]) (by kernel_rfl) (by simp) (AllReadyH.cons (o := { dst := some 56, op := Op.buildSlice 24 4 #[(0, Operand.const (Value.int IntKind.u8 255)), (1, Operand.const (Value.int IntKind.u8 250)), (2, Operand.const (Value.int IntKind.u8 24)), (3, Operand.const (Value.int IntKind.u8 0))], type := 24, pos := "ref.go:54", after := #[], guard := none }) rfl (fun K hK => ?_) AllReadyH.nil)
      rw [if_pos (by rfl)]
      go_simp
      have t2 := below_alloc Z2 (.cells #[.int .u8 255, .int .u8 250, .int .u8 24, .int .u8 0] 5)
      refine hK.out _ _ (HQ2.out.below t2).s5 (fun hHeld => ?_)
      clear hK K
      try simp only [Act.put, List.setIfInBounds_toArray, List.set_cons_zero, List.set_cons_succ]
      have RA3 := Lib.hid (row_lit Z2 [255, 250, 24, 0] #[.int .u8 255, .int .u8 250, .int .u8 24, .int .u8 0] rfl 4 4 rfl)
      have HQ3 := Lib.hid (HQ2.out.below t2)
      have RN3 := Lib.hid (RN2.out.below t2)
      have RE3 := Lib.hid (RE2.out.below t2)
      clear HQ2 RN2 RE2
      obtain ⟨Z3, hZ⟩ : ∃ Y, Y = Z2.alloc (.cells #[.int .u8 255, .int .u8 250, .int .u8 24, .int .u8 0] 5) := ⟨_, rfl⟩
      obtain ⟨ga, hg⟩ : ∃ g, g = Z2.heap.size := ⟨_, rfl⟩
      rw [← hZ] at HQ3 RN3 RE3 RA3 hHeld ⊢
      rw [← hg] at RA3 ⊢
      clear t2 hZ hg
      refine wpAnyH_ready (rs := [6]) (by kernel_rfl) (by simp) (AllReadyH.cons (o := { dst := some 61, op := Op.buildSlice 65 3 #[(0, Operand.tmp 56), (1, Operand.tmp 59), (2, Operand.tmp 60)], type := 65, pos := "ref.go:54", after := #[{ on := 1, ground := Ground.data }, { on := 4, ground := Ground.data }, { on := 5, ground := Ground.data }], guard := none }) rfl (fun K hK => ?_) AllReadyH.nil)
      rw [if_pos (by rfl)]
      go_simp
      have t3 := below_alloc Z3 (.cells #[.slice (some ⟨ga, 0, none⟩) 4 4, .slice (some ⟨gn, 0, none⟩) nm.size cap, .slice (some ⟨ge, 0, none⟩) 2 2] 24)
      refine hK.out _ _ (HQ3.out.below t3).s5 (fun hHeld => ?_)
      clear hK K
      try simp only [Act.put, List.setIfInBounds_toArray, List.set_cons_zero, List.set_cons_succ]
      have RR4 := Lib.hid (rows3 Z3 _ _ _ _ _ _ RA3.out RN3.out RE3.out)
      have HQ4 := Lib.hid (HQ3.out.below t3)
      have RN4 := Lib.hid (RN3.out.below t3)
      have RE4 := Lib.hid (RE3.out.below t3)
      have RA4 := Lib.hid (RA3.out.below t3)
      clear HQ3 RN3 RE3 RA3
      obtain ⟨Z4, hZ⟩ : ∃ Y, Y = Z3.alloc (.cells #[.slice (some ⟨ga, 0, none⟩) 4 4, .slice (some ⟨gn, 0, none⟩) nm.size cap, .slice (some ⟨ge, 0, none⟩) 2 2] 24) := ⟨_, rfl⟩
      obtain ⟨gr, hg⟩ : ∃ g, g = Z3.heap.size := ⟨_, rfl⟩
      rw [← hZ] at HQ4 RN4 RE4 RA4 RR4 hHeld ⊢
      rw [← hg] at RR4 ⊢
      clear t3 hZ hg
      refine wpAnyH_ready (rs := [7]) (by kernel_rfl) (by simp) (AllReadyH.cons (o := { dst := some 62, op := Op.call { callee := Callee.value (Operand.func 64), args := #[Operand.tmp 61], argTypes := #[65] }, type := 24, pos := "ref.go:54", after := #[{ on := 6, ground := Ground.data }], guard := none }) rfl (fun K hK => ?_) AllReadyH.nil)
      rw [if_pos (by rfl)]
      go_simp
      (go_at_call 64; refine (Iac.rjoin_any _ [[255, 250, 24, 0], nums nm, [255, 240]] _ RR4.out (by simp) (by have := HNS.out; simp [nums_length]; omega)).mono ?_; rintro e Z5 ⟨pj, rfl, hp, t4⟩)
      go_wp2_with fail
      refine hK.out _ _ (HQ4.out.below t4).s5 (fun hHeld => ?_)
      clear hK K
      try simp only [Act.put, List.setIfInBounds_toArray, List.set_cons_zero, List.set_cons_succ]
      have RJ5 := Lib.hid hp.row
      have HQ5 := Lib.hid (HQ4.out.below t4)
      clear HQ4
      clear t4 hp
      refine wpAnyH_ready (rs := [8]) (by kernel_rfl) (by simp) (AllReadyH.cons (o := { dst := none, op := Op.store 48 (Operand.tmp 4) (Operand.tmp 55), type := 0, pos := "ref.go:54", after := #[{ on := 0, ground := Ground.data }, { on := 7, ground := Ground.chain }, { on := 0, ground := Ground.phase }, { on := 1, ground := Ground.textOnly Departure.lateStores }, { on := 2, ground := Ground.textOnly Departure.lateStores }, { on := 3, ground := Ground.textOnly Departure.lateStores }, { on := 4, ground := Ground.textOnly Departure.lateStores }, { on := 5, ground := Ground.textOnly Departure.lateStores }, { on := 6, ground := Ground.textOnly Departure.lateStores }, { on := 7, ground := Ground.textOnly Departure.lateStoresUnsure }], guard := none }) rfl (fun K hK => ?_) AllReadyH.nil)
      obtain ⟨r0, r1, r2, r3, r4, f2⟩ := HQ5.out.rcells
      rw [if_pos (by rfl)]
      go_simp
      refine hK.out _ _ HQ5.out.fin_s5 (fun hHeld => ?_)
      clear hK K r0 r1 r2 r3 r4 f2
      try simp only [Act.put, List.setIfInBounds_toArray, List.set_cons_zero, List.set_cons_succ]
      refine wpAnyH_take (i := 9) (oi := { dst := some 5, op := Op.assign (Operand.tmp 62), type := 24, pos := "ref.go:54", after := #[{ on := 7, ground := Ground.data }, { on := 8, ground := Ground.chain }, { on := 0, ground := Ground.phase }, { on := 1, ground := Ground.phase }, { on := 2, ground := Ground.phase }, { on := 3, ground := Ground.phase }, { on := 4, ground := Ground.phase }, { on := 5, ground := Ground.phase }, { on := 6, ground := Ground.phase }, { on := 7, ground := Ground.phase }, { on := 8, ground := Ground.phase }], guard := none }) (v := ?_) rfl (by kernel_rfl) (by kernel_rfl) (by kernel_rfl) (fun _ _ _ h => h) (Or.inl ⟨by rfl, ?_⟩) (by assumption) ?_
      rotate_left
      focus (intro w hSw; (try dsimp only at hSw); go_simp; try (with_reducible rfl))
      try simp only [Act.put, List.setIfInBounds_toArray, List.set_cons_zero, List.set_cons_succ]
      refine wpAnyH_done (by kernel_rfl) ?_ _
      go_wp2_with fail
      (try simp only [Exit.inBlock, Exit.then])
      refine bodyPost_ret (results_row_tmp rfl _ _ (s + 1 + 1) _ rfl HQ5.out.fin5) rfl ?_
      have hfin := RTakeK.mk HS.out HQ5.out RJ5.out (put5_turn Z5 (s + 1 + 1) (.string nm) (.slice xa xn xc) (.slice ua un uc) (.slice va vn vc) (.bool true))
      unfold put5 at hfin
      simpa using hfin
  · rw [if_pos (by rfl)]
    go_simp
    have t0 := below_alloc Z0 (.cells #[.int .u8 255, .int .u8 240] 5)
    refine hK.out _ _ (HQ0.out.below t0).s5 (fun hHeld => ?_)
    clear hK K
    try simp only [Act.put, List.setIfInBounds_toArray, List.set_cons_zero, List.set_cons_succ]
    have RE1 := Lib.hid (row_lit Z0 [255, 240] #[.int .u8 255, .int .u8 240] rfl 2 2 rfl)
    have HQ1 := Lib.hid (HQ0.out.below t0)
    clear HQ0
    obtain ⟨Z1, hZ⟩ : ∃ Y, Y = Z0.alloc (.cells #[.int .u8 255, .int .u8 240] 5) := ⟨_, rfl⟩
    obtain ⟨ge, hg⟩ : ∃ g, g = Z0.heap.size := ⟨_, rfl⟩
    rw [← hZ] at HQ1 RE1 hHeld ⊢
    rw [← hg] at RE1 ⊢
    clear t0 hZ hg
    refine wpAnyH_ready (rs := [1, 4]) (by kernel_rfl) (by simp) (AllReadyH.cons (o := { dst := some 56, op := Op.buildSlice 24 4 #[(0, Operand.const (Value.int IntKind.u8 255)), (1, Operand.const (Value.int IntKind.u8 250)), (2, Operand.const (Value.int IntKind.u8 24)), (3, Operand.const (Value.int IntKind.u8 0))], type := 24, pos := "ref.go:54", after := #[], guard := none }) rfl (fun K hK => ?_) (AllReadyH.cons (o := { dst := some 59, op := Op.convert 9 24 (Operand.tmp 58), type := 24, pos := "ref.go:54", after := #[{ on := 3, ground := Ground.data }], guard := none }) rfl (fun K hK => ?_) AllReadyH.nil))
    · rw [if_pos (by rfl)]
      go_simp
      have t1 := below_alloc Z1 (.cells #[.int .u8 255, .int .u8 250, .int .u8 24, .int .u8 0] 5)
      refine hK.out _ _ (HQ1.out.below t1).s5 (fun hHeld => ?_)
      clear hK K
      try simp only [Act.put, List.setIfInBounds_toArray, List.set_cons_zero, List.set_cons_succ]
      have RA2 := Lib.hid (row_lit Z1 [255, 250, 24, 0] #[.int .u8 255, .int .u8 250, .int .u8 24, .int .u8 0] rfl 4 4 rfl)
      have HQ2 := Lib.hid (HQ1.out.below t1)
      have RE2 := Lib.hid (RE1.out.below t1)
      clear HQ1 RE1
      obtain ⟨Z2, hZ⟩ : ∃ Y, Y = Z1.alloc (.cells #[.int .u8 255, .int .u8 250, .int .u8 24, .int .u8 0] 5) := ⟨_, rfl⟩
      obtain ⟨ga, hg⟩ : ∃ g, g = Z1.heap.size := ⟨_, rfl⟩
      rw [← hZ] at HQ2 RE2 RA2 hHeld ⊢
      rw [← hg] at RA2 ⊢
      clear t1 hZ hg
      refine wpAnyH_ready (rs := [4]) (by kernel_rfl) (by simp) (AllReadyH.cons (o := { dst := some 59, op := Op.convert 9 24 (Operand.tmp 58), type := 24, pos := "ref.go:54", after := #[{ on := 3, ground := Ground.data }], guard := none }) rfl (fun K hK => ?_) AllReadyH.nil)
      obtain ⟨cap, Z3, hrun, hcv, t2, _⟩ := conv_row nm Z2
      rw [if_pos (by rfl)]
      go_simp
      refine hK.out _ _ (HQ2.out.below t2).s5 (fun hHeld => ?_)
      clear hK K hrun
      try simp only [Act.put, List.setIfInBounds_toArray, List.set_cons_zero, List.set_cons_succ]
      have RN3 := Lib.hid (hcv.row (cap := cap) (nums nm) (nums_length nm).symm (fun _ _ => rfl))
      have HQ3 := Lib.hid (HQ2.out.below t2)
      have RE3 := Lib.hid (RE2.out.below t2)
      have RA3 := Lib.hid (RA2.out.below t2)
      clear HQ2 RE2 RA2
      obtain ⟨gn, hg⟩ : ∃ g, g = Z2.heap.size := ⟨_, rfl⟩
      rw [← hg] at RN3 ⊢
      clear t2 hg hcv
      refine wpAnyH_ready (rs := [6]) (by kernel_rfl) (by simp) (AllReadyH.cons (o := { dst := some 61, op := Op.buildSlice 65 3 #[(0, Operand.tmp 56), (1, Operand.tmp 59), (2, Operand.tmp 60)], type := 65, pos := "ref.go:54", after := #[{ on := 1, ground := Ground.data }, { on := 4, ground := Ground.data }, { on := 5, ground := Ground.data }], guard := none }) rfl (fun K hK => ?_) AllReadyH.nil)
      rw [if_pos (by rfl)]
      go_simp
      have t3 := below_alloc Z3 (.cells #[.slice (some ⟨ga, 0, none⟩) 4 4, .slice (some ⟨gn, 0, none⟩) nm.size cap, .slice (some ⟨ge, 0, none⟩) 2 2] 24)
      refine hK.out _ _ (HQ3.out.below t3).s5 (fun hHeld => ?_)
      clear hK K
      try simp only [Act.put, List.setIfInBounds_toArray, List.set_cons_zero, List.set_cons_succ]
      have RR4 := Lib.hid (rows3 Z3 _ _ _ _ _ _ RA3.out RN3.out RE3.out)
      have HQ4 := Lib.hid (HQ3.out.below t3)
      have RE4 := Lib.hid (RE3.out.below t3)
      have RA4 := Lib.hid (RA3.out.below t3)
      have RN4 := Lib.hid (RN3.out.below t3)
      clear HQ3 RE3 RA3 RN3
      obtain ⟨Z4, hZ⟩ : ∃ Y, Y = Z3.alloc (.cells #[.slice (some ⟨ga, 0, none⟩) 4 4, .slice (some ⟨gn, 0, none⟩) nm.size cap, .slice (some ⟨ge, 0, none⟩) 2 2] 24) := ⟨_, rfl⟩
      obtain ⟨gr, hg⟩ : ∃ g, g = Z3.heap.size := ⟨_, rfl⟩
      rw [← hZ] at HQ4 RE4 RA4 RN4 RR4 hHeld ⊢
      rw [← hg] at RR4 ⊢
      clear t3 hZ hg
      refine wpAnyH_ready (rs := [7]) (by kernel_rfl) (by simp) (AllReadyH.cons (o := { dst := some 62, op := Op.call { callee := Callee.value (Operand.func 64), args := #[Operand.tmp 61], argTypes := #[65] }, type := 24, pos := "ref.go:54", after := #[{ on := 6, ground := Ground.data }], guard := none }) rfl (fun K hK => ?_) AllReadyH.nil)
      rw [if_pos (by rfl)]
      go_simp
      (go_at_call 64; refine (Iac.rjoin_any _ [[255, 250, 24, 0], nums nm, [255, 240]] _ RR4.out (by simp) (by have := HNS.out; simp [nums_length]; omega)).mono ?_; rintro e Z5 ⟨pj, rfl, hp, t4⟩)
      go_wp2_with fail
      refine hK.out _ _ (HQ4.out.below t4).s5 (fun hHeld => ?_)
      clear hK K
      try simp only [Act.put, List.setIfInBounds_toArray, List.set_cons_zero, List.set_cons_succ]
      have RJ5 := Lib.hid hp.row
      have HQ5 := Lib.hid (HQ4.out.below t4)
      clear HQ4
      clear t4 hp
      refine wpAnyH_ready (rs := [8]) (by kernel_rfl) (by simp) (AllReadyH.cons (o := { dst := none, op := Op.store 48 (Operand.tmp 4) (Operand.tmp 55), type := 0, pos := "ref.go:54", after := #[{ on := 0, ground := Ground.data }, { on := 7, ground := Ground.chain }, { on := 0, ground := Ground.phase }, { on := 1, ground := Ground.textOnly Departure.lateStores }, { on := 2, ground := Ground.textOnly Departure.lateStores }, { on := 3, ground := Ground.textOnly Departure.lateStores }, { on := 4, ground := Ground.textOnly Departure.lateStores }, { on := 5, ground := Ground.textOnly Departure.lateStores }, { on := 6, ground := Ground.textOnly Departure.lateStores }, { on := 7, ground := Ground.textOnly Departure.lateStoresUnsure }], guard := none }) rfl (fun K hK => ?_) AllReadyH.nil)
      obtain ⟨r0, r1, r2, r3, r4, f2⟩ := HQ5.out.rcells
      rw [if_pos (by rfl)]
      go_simp
      refine hK.out _ _ HQ5.out.fin_s5 (fun hHeld => ?_)
      clear hK K r0 r1 r2 r3 r4 f2
      try simp only [Act.put, List.setIfInBounds_toArray, List.set_cons_zero, List.set_cons_succ]
      refine wpAnyH_take (i := 9) (oi := { dst := some 5, op := Op.assign (Operand.tmp 62), type := 24, pos := "ref.go:54", after := #[{ on := 7, ground := Ground.data }, { on := 8, ground := Ground.chain }, { on := 0, ground := Ground.phase }, { on := 1, ground := Ground.phase }, { on := 2, ground := Ground.phase }, { on := 3, ground := Ground.phase }, { on := 4, ground := Ground.phase }, { on := 5, ground := Ground.phase }, { on := 6, ground := Ground.phase }, { on := 7, ground := Ground.phase }, { on := 8, ground := Ground.phase }], guard := none }) (v := ?_) rfl (by kernel_rfl) (by kernel_rfl) (by kernel_rfl) (fun _ _ _ h => h) (Or.inl ⟨by rfl, ?_⟩) (by assumption) ?_
      rotate_left
      focus (intro w hSw; (try dsimp only at hSw); go_simp; try (with_reducible rfl))
      try simp only [Act.put, List.setIfInBounds_toArray, List.set_cons_zero, List.set_cons_succ]
      refine wpAnyH_done (by kernel_rfl) ?_ _
      go_wp2_with fail
      (try simp only [Exit.inBlock, Exit.then])
      refine bodyPost_ret (results_row_tmp rfl _ _ (s + 1 + 1) _ rfl HQ5.out.fin5) rfl ?_
      have hfin := RTakeK.mk HS.out HQ5.out RJ5.out (put5_turn Z5 (s + 1 + 1) (.string nm) (.slice xa xn xc) (.slice ua un uc) (.slice va vn vc) (.bool true))
      unfold put5 at hfin
      simpa using hfin
    · obtain ⟨cap, Z2, hrun, hcv, t1, _⟩ := conv_row nm Z1
      rw [if_pos (by rfl)]
      go_simp
      refine hK.out _ _ (HQ1.out.below t1).s5 (fun hHeld => ?_)
      clear hK K hrun
      try simp only [Act.put, List.setIfInBounds_toArray, List.set_cons_zero, List.set_cons_succ]
      have RN2 := Lib.hid (hcv.row (cap := cap) (nums nm) (nums_length nm).symm (fun _ _ => rfl))
      have HQ2 := Lib.hid (HQ1.out.below t1)
      have RE2 := Lib.hid (RE1.out.below t1)
      clear HQ1 RE1
      obtain ⟨gn, hg⟩ : ∃ g, g = Z1.heap.size := ⟨_, rfl⟩
      rw [← hg] at RN2 ⊢
      clear t1 hg hcv
      refine wpAnyH_ready (rs := [1]) (by kernel_rfl) (by simp) (AllReadyH.cons (o := { dst := some 56, op := Op.buildSlice 24 4 #[(0, Operand.const (Value.int IntKind.u8 255)), (1, Operand.const (Value.int IntKind.u8 250)), (2, Operand.const (Value.int IntKind.u8 24)), (3, Operand.const (Value.int IntKind.u8 0))], type := 24, pos := "ref.go:54", after := #[], guard := none }) rfl (fun K hK => ?_) AllReadyH.nil)
      rw [if_pos (by rfl)]
      go_simp
      have t2 := below_alloc Z2 (.cells #[.int .u8 255, .int .u8 250, .int .u8 24, .int .u8 0] 5)
      refine hK.out _ _ (HQ2.out.below t2).s5 (fun hHeld => ?_)
      clear hK K
      try simp only [Act.put, List.setIfInBounds_toArray, List.set_cons_zero, List.set_cons_succ]
      have RA3 := Lib.hid (row_lit Z2 [255, 250, 24, 0] #[.int .u8 255, .int .u8 250, .int .u8 24, .int .u8 0] rfl 4 4 rfl)
      have HQ3 := Lib.hid (HQ2.out.below t2)
      have RE3 := Lib.hid (RE2.out.below t2)
      have RN3 := Lib.hid (RN2.out.below t2)
      clear HQ2 RE2 RN2
      obtain ⟨Z3, hZ⟩ : ∃ Y, Y = Z2.alloc (.cells #[.int .u8 255, .int .u8 250, .int .u8 24, .int .u8 0] 5) := ⟨_, rfl⟩
      obtain ⟨ga, hg⟩ : ∃ g, g = Z2.heap.size := ⟨_, rfl⟩
      rw [← hZ] at HQ3 RE3 RN3 RA3 hHeld ⊢
      rw [← hg] at RA3 ⊢
      clear t2 hZ hg
      refine wpAnyH_ready (rs := [6]) (by kernel_rfl) (by simp) (AllReadyH.cons (o := { dst := some 61, op := Op.buildSlice 65 3 #[(0, Operand.tmp 56), (1, Operand.tmp 59), (2, Operand.tmp 60)], type := 65, pos := "ref.go:54", after := #[{ on := 1, ground := Ground.data }, { on := 4, ground := Ground.data }, { on := 5, ground := Ground.data }], guard := none }) rfl (fun K hK => ?_) AllReadyH.nil)
      rw [if_pos (by rfl)]
      go_simp
      have t3 := below_alloc Z3 (.cells #[.slice (some ⟨ga, 0, none⟩) 4 4, .slice (some ⟨gn, 0, none⟩) nm.size cap, .slice (some ⟨ge, 0, none⟩) 2 2] 24)
      refine hK.out _ _ (HQ3.out.below t3).s5 (fun hHeld => ?_)
      clear hK K
      try simp only [Act.put, List.setIfInBounds_toArray, List.set_cons_zero, List.set_cons_succ]
      have RR4 := Lib.hid (rows3 Z3 _ _ _ _ _ _ RA3.out RN3.out RE3.out)
      have HQ4 := Lib.hid (HQ3.out.below t3)
      have RE4 := Lib.hid (RE3.out.below t3)
      have RN4 := Lib.hid (RN3.out.below t3)
      have RA4 := Lib.hid (RA3.out.below t3)
      clear HQ3 RE3 RN3 RA3
      obtain ⟨Z4, hZ⟩ : ∃ Y, Y = Z3.alloc (.cells #[.slice (some ⟨ga, 0, none⟩) 4 4, .slice (some ⟨gn, 0, none⟩) nm.size cap, .slice (some ⟨ge, 0, none⟩) 2 2] 24) := ⟨_, rfl⟩
      obtain ⟨gr, hg⟩ : ∃ g, g = Z3.heap.size := ⟨_, rfl⟩
      rw [← hZ] at HQ4 RE4 RN4 RA4 RR4 hHeld ⊢
      rw [← hg] at RR4 ⊢
      clear t3 hZ hg
      refine wpAnyH_ready (rs := [7]) (by kernel_rfl) (by simp) (AllReadyH.cons (o := { dst := some 62, op := Op.call { callee := Callee.value (Operand.func 64), args := #[Operand.tmp 61], argTypes := #[65] }, type := 24, pos := "ref.go:54", after := #[{ on := 6, ground := Ground.data }], guard := none }) rfl (fun K hK => ?_) AllReadyH.nil)
      rw [if_pos (by rfl)]
      go_simp
      (go_at_call 64; refine (Iac.rjoin_any _ [[255, 250, 24, 0], nums nm, [255, 240]] _ RR4.out (by simp) (by have := HNS.out; simp [nums_length]; omega)).mono ?_; rintro e Z5 ⟨pj, rfl, hp, t4⟩)
      go_wp2_with fail
      refine hK.out _ _ (HQ4.out.below t4).s5 (fun hHeld => ?_)
      clear hK K
      try simp only [Act.put, List.setIfInBounds_toArray, List.set_cons_zero, List.set_cons_succ]
      have RJ5 := Lib.hid hp.row
      have HQ5 := Lib.hid (HQ4.out.below t4)
      clear HQ4
      clear t4 hp
      refine wpAnyH_ready (rs := [8]) (by kernel_rfl) (by simp) (AllReadyH.cons (o := { dst := none, op := Op.store 48 (Operand.tmp 4) (Operand.tmp 55), type := 0, pos := "ref.go:54", after := #[{ on := 0, ground := Ground.data }, { on := 7, ground := Ground.chain }, { on := 0, ground := Ground.phase }, { on := 1, ground := Ground.textOnly Departure.lateStores }, { on := 2, ground := Ground.textOnly Departure.lateStores }, { on := 3, ground := Ground.textOnly Departure.lateStores }, { on := 4, ground := Ground.textOnly Departure.lateStores }, { on := 5, ground := Ground.textOnly Departure.lateStores }, { on := 6, ground := Ground.textOnly Departure.lateStores }, { on := 7, ground := Ground.textOnly Departure.lateStoresUnsure }], guard := none }) rfl (fun K hK => ?_) AllReadyH.nil)
      obtain ⟨r0, r1, r2, r3, r4, f2⟩ := HQ5.out.rcells
      rw [if_pos (by rfl)]
      go_simp
      refine hK.out _ _ HQ5.out.fin_s5 (fun hHeld => ?_)
      clear hK K r0 r1 r2 r3 r4 f2
      try simp only [Act.put, List.setIfInBounds_toArray, List.set_cons_zero, List.set_cons_succ]
      refine wpAnyH_take (i := 9) (oi := { dst := some 5, op := Op.assign (Operand.tmp 62), type := 24, pos := "ref.go:54", after := #[{ on := 7, ground := Ground.data }, { on := 8, ground := Ground.chain }, { on := 0, ground := Ground.phase }, { on := 1, ground := Ground.phase }, { on := 2, ground := Ground.phase }, { on := 3, ground := Ground.phase }, { on := 4, ground := Ground.phase }, { on := 5, ground := Ground.phase }, { on := 6, ground := Ground.phase }, { on := 7, ground := Ground.phase }, { on := 8, ground := Ground.phase }], guard := none }) (v := ?_) rfl (by kernel_rfl) (by kernel_rfl) (by kernel_rfl) (fun _ _ _ h => h) (Or.inl ⟨by rfl, ?_⟩) (by assumption) ?_
      rotate_left
      focus (intro w hSw; (try dsimp only at hSw); go_simp; try (with_reducible rfl))
      try simp only [Act.put, List.setIfInBounds_toArray, List.set_cons_zero, List.set_cons_succ]
      refine wpAnyH_done (by kernel_rfl) ?_ _
      go_wp2_with fail
      (try simp only [Exit.inBlock, Exit.then])
      refine bodyPost_ret (results_row_tmp rfl _ _ (s + 1 + 1) _ rfl HQ5.out.fin5) rfl ?_
      have hfin := RTakeK.mk HS.out HQ5.out RJ5.out (put5_turn Z5 (s + 1 + 1) (.string nm) (.slice xa xn xc) (.slice ua un uc) (.slice va vn vc) (.bool true))
      unfold put5 at hfin
      simpa using hfin
end Go.Proofs.Ytimidoaafllnkaa.Talk
