/-
  The walk of HeaderBytes.
-/
import Derived.Test.YtfijcdidcnfadaaHeadJB
namespace Go.Proofs.Ytfijcdidcnfadaa.Head
open Go.RowKit Base Iac
set_option linter.unusedVariables false

theorem row_first8 {w : World} {a : Option Addr} {c : Nat} {x : Int} (h : RowOf .u8 w (.slice a 1 c) [x]) : ∃ b o, a = some ⟨b, o, none⟩ ∧ w.cell? ⟨b, o, none⟩ = some (.int .u8 x) := by
  obtain ⟨a', c', e', hr⟩ := h
  injection e' with e1 e2 e3
  subst e1
  obtain ⟨b, off, rfl, hc⟩ := hr (by simp)
  exact ⟨b, off, rfl, by simpa using hc 0 (by simp)⟩
set_option maxRecDepth 100000 in
set_option maxHeartbeats 8000000 in
theorem headerBytes_law {w : World} (v : Value) (L : List Int) (hL : CutRow w v L ∧ L.length ≤ maxLen ∧ ∀ n ∈ L, Open.Byte n) (h : Hd) (hk : h.Ok) (e : Int) (hwf : (Lit.int .i64 e).wf = true) (u : Value) (M : List Int) (hM : CutRow w u M ∧ M.length ≤ maxLen ∧ ∀ n ∈ M, Open.Byte n) :
    Calls Try.prog 3 #[v, .agg (hdA h), .int .i64 e, u] w fun e W' => e = .returned (.bool true) ∧ Below w.heap.size w W' := by
  have hz := (zero_of_info info_hd).1
  have hz' := (zero_of_info info_rh).1
  obtain ⟨hcl, hll, hby⟩ := hL
  obtain ⟨hcm, hlm, hbm⟩ := hM
  have HCL := Lib.hid hcl
  have HCM := Lib.hid hcm
  have HKO := Lib.hid hk
  have HBY := Lib.hid hby
  obtain ⟨_, av, cv, rfl, _, _⟩ := hcl
  obtain ⟨hrm, au, cu, rfl, _, _⟩ := hcm
  have HRM := Lib.hid hrm
  obtain ⟨n, hn⟩ : ∃ n, n = L.length := ⟨_, rfl⟩
  obtain ⟨m, hm⟩ : ∃ m, m = M.length := ⟨_, rfl⟩
  have HN := Lib.hid hn
  have HM := Lib.hid hm
  unfold maxLen at hll hlm
  rw [← hn] at hll HCL ⊢
  rw [← hm] at hlm HCM HRM ⊢
  obtain ⟨ty, rq, rs, sq⟩ := h
  unfold hdA
  simp only
  have hb0 := below_alloc w (.cells #[.int .u8 ty, .int .u8 rq, .int .u8 rs, .int .u16 sq] 25)
  have hn0 := heap_alloc_new w (.cells #[.int .u8 ty, .int .u8 rq, .int .u8 rs, .int .u16 sq] 25)
  obtain ⟨W0, hW0⟩ : ∃ W0, W0 = w.alloc (.cells #[.int .u8 ty, .int .u8 rq, .int .u8 rs, .int .u16 sq] 25) := ⟨_, rfl⟩
  obtain ⟨g, hg⟩ : ∃ g, g = w.heap.size := ⟨_, rfl⟩
  rw [← hW0] at hb0 hn0
  have HAQ : Hid (AQ w g #[.int .u8 ty, .int .u8 rq, .int .u8 rs, .int .u16 sq] W0) := Lib.hid ⟨hb0, by rw [hg]; exact hn0, rfl⟩
  have HW0 := Lib.hid hW0.symm
  have HG := Lib.hid hg.symm
  clear hn hm hb0 hn0 hW0 hg hwf hk hby hbm hrm
  by_cases hbig : 300 < n
  · have hbig' : (300 : Int) < n := by omega
    go_enter Try.func3, Try.ntmps3
    go_upto_region 1 with fail
    rw [HW0.out, HG.out]
    go_wp2_with fail
    refine (head_alive W0).mono ?_
    rintro e W1 ⟨rfl, b1⟩
    have HQ1 := Lib.hid (HAQ.out.below b1)
    clear b1
    go_wp2_with fail
    go_ret
    exact ⟨rfl, HQ1.out.old⟩
  have hsn : (n : Int) ≤ 300 := by omega
  by_cases hbig2 : 300 < m
  · have hbig' : (300 : Int) < m := by omega
    go_enter Try.func3, Try.ntmps3
    go_upto_region 1 with fail
    rw [HW0.out, HG.out]
    go_wp2_with fail
    refine (head_alive W0).mono ?_
    rintro e W1 ⟨rfl, b1⟩
    have HQ1 := Lib.hid (HAQ.out.below b1)
    clear b1
    go_wp2_with fail
    go_ret
    exact ⟨rfl, HQ1.out.old⟩
  have hsm : (m : Int) ≤ 300 := by omega
  have HML : Hid (M.length ≤ 100000) := Lib.hid (by rw [← HM.out]; omega)
  have HHL : Hid ((hdL ⟨ty, rq, rs, sq⟩ ++ M).length ≤ maxLen) := Lib.hid (by have := HM.out; simp [hdL, maxLen]; omega)
  have HWR : Hid (∀ W : World, Below w.heap.size w W → RowOf .u8 W (.slice au m cu) M) := Lib.hid fun W hb => HRM.out.below hb
  obtain ⟨⟨H, T, f⟩, hP⟩ : ∃ t, t = prs L := ⟨_, rfl⟩
  have hHO : H.Ok := by have := prs_ok L (fun x hx => HBY.out x hx); rw [← hP] at this; exact this
  have HTL : Hid (T.length ≤ maxLen) := Lib.hid (by have := prs_len L; rw [← hP] at this; simp only at this; have := HN.out; unfold maxLen; omega)
  have hcb : ∀ W, Below w.heap.size w W → CutRow W (.slice av n cv) L := fun W hb => ⟨HCL.out.1.below hb, HCL.out.2⟩
  have hpa := fun W hb => parse_all (.slice av n cv) L W (hcb W hb) (by rw [← HN.out]; omega) (fun x hx => HBY.out x hx)
  have hra := fun W hb => rparse_all (.slice av n cv) L W (hcb W hb) (by rw [← HN.out]; omega) (fun x hx => HBY.out x hx)
  rw [← hP] at hpa hra
  obtain ⟨Ht, Hq, Hr, Hs⟩ := H
  unfold hdA at hpa
  unfold rhA at hra
  simp only at hpa hra
  have HPA := Lib.hid hpa
  have HRA := Lib.hid hra
  have HKH := Lib.hid hHO
  have han := fun W => (answer_any ⟨ty, rq, rs, sq⟩ HKO.out e W).mono fun _ _ h => h.one
  have hra2 := fun W => (ranswer_any ⟨ty, rq, rs, sq⟩ HKO.out e W).mono fun _ _ h => h.one
  have hal : ((ansL ⟨ty, rq, rs, sq⟩ e).getD []).length ≤ maxLen := by
    unfold ansL maxLen
    split
    · simp
    · split
      · simp
      · split
        · simp
        · simp
  obtain ⟨A, hA⟩ : ∃ A, A = (ansL ⟨ty, rq, rs, sq⟩ e).getD [] := ⟨_, rfl⟩
  obtain ⟨ok, hok⟩ : ∃ ok, ok = (ansL ⟨ty, rq, rs, sq⟩ e).isSome := ⟨_, rfl⟩
  rw [← hA] at hal
  have HAN : Hid (∀ W, Calls Try.prog 18 #[.agg #[.int .u8 ty, .int .u8 rq, .int .u8 rs, .int .u16 sq], .int .i64 e] W fun r w' => ∃ p, r = .returned (.tuple #[p, .bool ok]) ∧ RowOf .u8 w' p A ∧ Below W.heap.size W w') := Lib.hid (by rw [hA, hok]; exact han)
  have HRN : Hid (∀ W, Calls Try.prog 19 #[.agg #[.int .u8 ty, .int .u8 rq, .int .u8 rs, .int .i64 sq], .int .i64 e] W fun r w' => ∃ p, r = .returned (.tuple #[p, .bool ok]) ∧ RowOf .u8 w' p A ∧ Below W.heap.size W w') := Lib.hid (by rw [hA, hok]; exact hra2)
  have HAL := Lib.hid hal
  clear hA hok hal han hra2 hpa hra hcb hP hHO hbig hbig2
  go_enter Try.func3, Try.ntmps3
  go_upto_region 1 with fail
  rw [HW0.out, HG.out]
  go_wp2_with fail
  refine (head_alive W0).mono ?_
  rintro e1 W1 ⟨rfl, b1⟩
  have HQ1 := Lib.hid (HAQ.out.below b1)
  clear b1
  go_wp2_with fail
  refine (HPA.out W1 HQ1.out.old).mono ?_
  rintro e2 W2 ⟨p, rfl, hp, b2⟩
  have HQ2 := Lib.hid (HQ1.out.below b2)
  have z2 := heap_alloc_new W2 (.cells #[.int .u8 Ht, .int .u8 Hq, .int .u8 Hr, .int .u16 Hs] 25)
  have b3 := below_alloc W2 (.cells #[.int .u8 Ht, .int .u8 Hq, .int .u8 Hr, .int .u16 Hs] 25)
  obtain ⟨W3, hW3⟩ : ∃ W3, W3 = W2.alloc (.cells #[.int .u8 Ht, .int .u8 Hq, .int .u8 Hr, .int .u16 Hs] 25) := ⟨_, rfl⟩
  obtain ⟨gp, hgp⟩ : ∃ gp, gp = W2.heap.size := ⟨_, rfl⟩
  rw [← hW3, ← hgp] at z2
  rw [← hW3] at b3
  have HQ3 := Lib.hid (HQ2.out.below b3)
  have HP3 := Lib.hid (hp.below b3)
  have HZ3 := Lib.hid z2
  have HW3 := Lib.hid hW3.symm
  have HGP := Lib.hid hgp.symm
  clear hp b2 z2 b3 hW3 hgp
  go_upto_region 6 with fail
  rw [HW3.out, HGP.out]
  go_wp2_with fail
  refine (HRA.out W3 HQ3.out.old).mono ?_
  rintro e2 W4 ⟨q, rfl, hq, b4⟩
  have z4 := heap_alloc_new W4 (.cells #[.int .u8 Ht, .int .u8 Hq, .int .u8 Hr, .int .i64 Hs] 31)
  have b5 := below_alloc W4 (.cells #[.int .u8 Ht, .int .u8 Hq, .int .u8 Hr, .int .i64 Hs] 31)
  have b45 := b4.trans (b5.mono b4.size)
  obtain ⟨W5, hW5⟩ : ∃ W5, W5 = W4.alloc (.cells #[.int .u8 Ht, .int .u8 Hq, .int .u8 Hr, .int .i64 Hs] 31) := ⟨_, rfl⟩
  obtain ⟨gr, hgr⟩ : ∃ gr, gr = W4.heap.size := ⟨_, rfl⟩
  rw [← hW5, ← hgr] at z4
  rw [← hW5] at b5 b45
  have HQ5 := Lib.hid (HQ3.out.below b45)
  have HP5 := Lib.hid (HP3.out.below b45)
  have HZ5 := Lib.hid ((b45.block _ (lt_of_block HZ3.out)).trans HZ3.out)
  have HX5 := Lib.hid (hq.below b5)
  have HY5 := Lib.hid z4
  have HW5 := Lib.hid hW5.symm
  have HGR := Lib.hid hgr.symm
  obtain ⟨c0, c1, c2, c3, _⟩ := HQ5.out.s
  clear hq b4 z4 b5 b45 hW5 hgr HQ1 HQ2 HQ3
  go_upto_region 7 with fail
  rw [HW5.out, HGR.out]
  go_wp2_with fail
  refine (HAN.out W5).mono ?_
  rintro e2 W6 ⟨a, rfl, ha, b6⟩
  have HQ6 := Lib.hid (HQ5.out.below b6)
  have HP6 := Lib.hid (HP5.out.below b6)
  have HZ6 := Lib.hid ((b6.block _ (lt_of_block HZ5.out)).trans HZ5.out)
  have HX6 := Lib.hid (HX5.out.below b6)
  have HY6 := Lib.hid ((b6.block _ (lt_of_block HY5.out)).trans HY5.out)
  have HA6 := Lib.hid ha
  clear c0 c1 c2 c3 ha b6 HQ5
  obtain ⟨c0, c1, c2, c3, _⟩ := HQ6.out.s
  go_wp2_with fail
  refine (has_any ⟨ty, rq, rs, sq⟩ HKO.out W6).mono ?_
  rintro e2 W7 ⟨rfl, b7⟩
  simp only [rhA]
  go_wp2_with fail
  refine (HRN.out W7).mono ?_
  rintro e2 W8 ⟨x, rfl, hx, b8⟩
  have b68 := b7.trans (b8.mono b7.size)
  have HB0 := Lib.hid (show BQ w g gp gr ⟨ty, rq, rs, sq⟩ ⟨Ht, Hq, Hr, Hs⟩ p q a x T A W8 from ⟨(HQ6.out.below b68).old, (HQ6.out.below b68).blk, (b68.block _ (lt_of_block HZ6.out)).trans HZ6.out, (b68.block _ (lt_of_block HY6.out)).trans HY6.out, HP6.out.below b68, HX6.out.below b68, HA6.out.below b68, hx⟩)
  clear c0 c1 c2 c3 hx b7 b8 b68
  obtain ⟨c0, c1, c2, c3, _⟩ := HB0.out.s
  simp only at c0 c1 c2 c3
  by_cases hs : senseB ⟨ty, rq, rs, sq⟩ M = true
  · obtain ⟨h1, h2, h3⟩ := of_decide_eq_true hs
    simp only at h1 h2
    subst h1
    obtain ⟨x0, rfl⟩ := List.length_eq_one_iff.1 h3
    obtain rfl : m = 1 := HM.out
    clear hs h3
    rcases h2 with rfl | rfl
    · skip
      go_wp2_with fail
      refine (sense_yes ⟨2, rq, 0, sq⟩ _ x0 W8 rfl (by simp) (HWR.out _ HB0.out.old)).mono ?_
      rintro e9 W9 ⟨rfl, b9⟩
      have HB9 := Lib.hid (HB0.out.below b9)
      obtain ⟨bm, om, rfl, hcx⟩ := row_first8 (HWR.out W9 HB9.out.old)
      clear c0 c1 c2 c3 b9
      obtain ⟨c0, c1, c2, c3, _⟩ := HB9.out.s
      simp only at c0 c1 c2 c3
      go_upto_region 13 with fail
      have HQ0 := Lib.hid (HB9.out.drew)
      clear c0 c1 c2 c3
      change Code.wp _ (Code.region 13 hb13 true) _ _ _
      refine wp_region_held_drew (S := (fun W => W.cell? ⟨g, 0, none⟩ = some (.int .u8 2) ∧ W.cell? ⟨g, 1, none⟩ = some (.int .u8 rq) ∧ W.cell? ⟨g, 2, none⟩ = some (.int .u8 0) ∧ W.cell? ⟨g, 3, none⟩ = some (.int .u16 sq) ∧ W.cell? ⟨gp, 0, none⟩ = some (.int .u8 Ht) ∧ W.cell? ⟨gp, 1, none⟩ = some (.int .u8 Hq) ∧ W.cell? ⟨gp, 2, none⟩ = some (.int .u8 Hr) ∧ W.cell? ⟨gp, 3, none⟩ = some (.int .u16 Hs) ∧ W.cell? ⟨gr, 0, none⟩ = some (.int .u8 Ht) ∧ W.cell? ⟨gr, 1, none⟩ = some (.int .u8 Hq) ∧ W.cell? ⟨gr, 2, none⟩ = some (.int .u8 Hr) ∧ W.cell? ⟨gr, 3, none⟩ = some (.int .i64 Hs))) (by kernel_rfl) (HQ0.out.s) (fun hHeld => ?_)
      change wpAnyH _ .any hb13 _ _ 42 hb13_l0 _ _
      refine wpAnyH_take (i := 0) (oi := { dst := some 109, op := Op.move (Operand.tmp 11), type := 26, pos := "law.go:48", after := #[], guard := none }) (v := ?_) (listed := hb13_l0) hb13_g0 hb13_nosel hb13_f0 hb13_r0 (fun _ _ _ h => h) (Or.inl ⟨by rfl, ?_⟩) (by assumption) ?_
      rotate_left
      focus (intro w hSw; (try dsimp only at hSw); go_simp; try (with_reducible rfl))
      try simp only [Act.put, List.setIfInBounds_toArray, List.set_cons_zero, List.set_cons_succ]
      refine wpAnyH_take (i := 1) (oi := { dst := some 110, op := Op.move (Operand.tmp 14), type := 3, pos := "law.go:48", after := #[], guard := none }) (v := ?_) (listed := hb13_l1) hb13_g1 hb13_nosel hb13_f1 hb13_r1 (fun _ _ _ h => h) (Or.inl ⟨by rfl, ?_⟩) (by assumption) ?_
      rotate_left
      focus (intro w hSw; (try dsimp only at hSw); go_simp; try (with_reducible rfl))
      try simp only [Act.put, List.setIfInBounds_toArray, List.set_cons_zero, List.set_cons_succ]
      refine wpAnyH_take (i := 2) (oi := { dst := some 111, op := Op.binOp BinOp.eql 3 (Operand.tmp 109) (Operand.tmp 110) 3, type := 4, pos := "law.go:48", after := #[{ on := 0, ground := Ground.data }, { on := 1, ground := Ground.data }], guard := none }) (v := ?_) (listed := hb13_l2) hb13_g2 hb13_nosel hb13_f2 hb13_r2 (fun _ _ _ h => h) (Or.inl ⟨by rfl, ?_⟩) (by assumption) ?_
      rotate_left
      focus (intro w hSw; (try dsimp only at hSw); go_simp; try (with_reducible rfl))
      try simp only [Act.put, List.setIfInBounds_toArray, List.set_cons_zero, List.set_cons_succ]
      refine wpAnyH_take (i := 3) (oi := { dst := some 112, op := Op.move (Operand.tmp 111), type := 4, pos := "law.go:48", after := #[{ on := 2, ground := Ground.data }], guard := none }) (v := ?_) (listed := hb13_l3) hb13_g3 hb13_nosel hb13_f3 hb13_r3 (fun _ _ _ h => h) (Or.inl ⟨by rfl, ?_⟩) (by assumption) ?_
      rotate_left
      focus (intro w hSw; (try dsimp only at hSw); go_simp; try (with_reducible rfl))
      try simp only [Act.put, List.setIfInBounds_toArray, List.set_cons_zero, List.set_cons_succ]
      refine wpAnyH_take (i := 4) (oi := { dst := some 113, op := Op.load 25 (Operand.tmp 9), type := 25, pos := "law.go:48", after := #[{ on := 3, ground := Ground.guard }], guard := some (3, true) }) (v := ?_) (listed := hb13_l4) hb13_g4 hb13_nosel hb13_f4 hb13_r4 (fun _ _ _ h => h) (Or.inl ⟨by rfl, ?_⟩) (by assumption) ?_
      rotate_left
      focus (intro w hSw; (try dsimp only at hSw); go_simp; try (with_reducible rfl))
      try simp only [Act.put, List.setIfInBounds_toArray, List.set_cons_zero, List.set_cons_succ]
      refine wpAnyH_take (i := 6) (oi := { dst := some 115, op := Op.load 31 (Operand.tmp 12), type := 31, pos := "law.go:48", after := #[{ on := 3, ground := Ground.guard }], guard := some (3, true) }) (v := ?_) (listed := hb13_l5) hb13_g6 hb13_nosel hb13_f5 hb13_r5 (fun _ _ _ h => h) (Or.inl ⟨by rfl, ?_⟩) (by assumption) ?_
      rotate_left
      focus (intro w hSw; (try dsimp only at hSw); go_simp; try (with_reducible rfl))
      try simp only [Act.put, List.setIfInBounds_toArray, List.set_cons_zero, List.set_cons_succ]
      refine wpAnyH_ready (rs := [5]) (listed := hb13_l6) hb13_r6 (by simp) (AllReadyH.cons (o := { dst := some 114, op := Op.call { callee := Callee.value (Operand.func 20), args := #[Operand.tmp 113], argTypes := #[25] }, type := 31, pos := "law.go:48", after := #[{ on := 4, ground := Ground.data }, { on := 3, ground := Ground.chain }, { on := 3, ground := Ground.guard }], guard := some (3, true) }) hb13_g5 (fun K hK => ?_) AllReadyH.nil)
      rw [if_pos (by rfl)]
      go_simp
      (go_at_call 20; refine (has_any ⟨Ht, Hq, Hr, Hs⟩ HKH.out _).mono ?_; rintro e5 w5 ⟨rfl, b5⟩; simp only [rhA]; have HQ5 := Lib.hid (HQ0.out.below b5); clear b5)
      go_wp2_with fail
      refine hK.out _ _ (BQ.s HQ5.out) (fun hHeld => ?_)
      clear hK K
      try simp only [Act.put, List.setIfInBounds_toArray, List.set_cons_zero, List.set_cons_succ]
      refine wpAnyH_take (i := 7) (oi := { dst := some 116, op := Op.binOp BinOp.eql 31 (Operand.tmp 114) (Operand.tmp 115) 31, type := 4, pos := "law.go:48", after := #[{ on := 5, ground := Ground.data }, { on := 6, ground := Ground.data }, { on := 3, ground := Ground.guard }], guard := some (3, true) }) (v := ?_) (listed := hb13_l7) hb13_g7 hb13_nosel hb13_f7 hb13_r7 (fun _ _ _ h => h) (Or.inl ⟨by rfl, ?_⟩) (by assumption) ?_
      rotate_left
      focus (intro w hSw; (try dsimp only at hSw); go_simp; try (with_reducible rfl))
      try simp only [Act.put, List.setIfInBounds_toArray, List.set_cons_zero, List.set_cons_succ]
      refine wpAnyH_take (i := 8) (oi := { dst := some 117, op := Op.pick (Operand.tmp 112) (Operand.tmp 116) (Operand.const (Value.bool false)), type := 4, pos := "law.go:48", after := #[{ on := 3, ground := Ground.data }, { on := 7, ground := Ground.data }], guard := none }) (v := ?_) (listed := hb13_l8) hb13_g8 hb13_nosel hb13_f8 hb13_r8 (fun _ _ _ h => h) (Or.inl ⟨by rfl, ?_⟩) (by assumption) ?_
      rotate_left
      focus (intro w hSw; (try dsimp only at hSw); go_simp; try (with_reducible rfl))
      try simp only [Act.put, List.setIfInBounds_toArray, List.set_cons_zero, List.set_cons_succ]
      refine wpAnyH_take (i := 9) (oi := { dst := some 118, op := Op.move (Operand.tmp 117), type := 4, pos := "law.go:48", after := #[{ on := 8, ground := Ground.data }, { on := 5, ground := Ground.chain }], guard := none }) (v := ?_) (listed := hb13_l9) hb13_g9 hb13_nosel hb13_f9 hb13_r9 (fun _ _ _ h => h) (Or.inl ⟨by rfl, ?_⟩) (by assumption) ?_
      rotate_left
      focus (intro w hSw; (try dsimp only at hSw); go_simp; try (with_reducible rfl))
      try simp only [Act.put, List.setIfInBounds_toArray, List.set_cons_zero, List.set_cons_succ]
      refine wpAnyH_take (i := 10) (oi := { dst := some 119, op := Op.move (Operand.tmp 10), type := 22, pos := "law.go:48", after := #[{ on := 9, ground := Ground.guard }], guard := some (9, true) }) (v := ?_) (listed := hb13_l10) hb13_g10 hb13_nosel hb13_f10 hb13_r10 (fun _ _ _ h => h) (Or.inl ⟨by rfl, ?_⟩) (by assumption) ?_
      rotate_left
      focus (intro w hSw; (try dsimp only at hSw); go_simp; try (with_reducible rfl))
      try simp only [Act.put, List.setIfInBounds_toArray, List.set_cons_zero, List.set_cons_succ]
      refine wpAnyH_take (i := 11) (oi := { dst := some 120, op := Op.move (Operand.tmp 13), type := 22, pos := "law.go:48", after := #[{ on := 9, ground := Ground.guard }], guard := some (9, true) }) (v := ?_) (listed := hb13_l11) hb13_g11 hb13_nosel hb13_f11 hb13_r11 (fun _ _ _ h => h) (Or.inl ⟨by rfl, ?_⟩) (by assumption) ?_
      rotate_left
      focus (intro w hSw; (try dsimp only at hSw); go_simp; try (with_reducible rfl))
      try simp only [Act.put, List.setIfInBounds_toArray, List.set_cons_zero, List.set_cons_succ]
      refine wpAnyH_ready (rs := [12]) (listed := hb13_l12) hb13_r12 (by simp) (AllReadyH.cons (o := { dst := some 121, op := Op.call { callee := Callee.value (Operand.func 22), args := #[Operand.tmp 119, Operand.tmp 120], argTypes := #[22, 22] }, type := 4, pos := "law.go:48", after := #[{ on := 10, ground := Ground.data }, { on := 11, ground := Ground.data }, { on := 9, ground := Ground.chain }, { on := 9, ground := Ground.guard }], guard := some (9, true) }) hb13_g12 (fun K hK => ?_) AllReadyH.nil)
      rw [if_pos (by rfl)]
      go_simp
      (go_at_call 22; refine (same_t _ _ T _ HQ5.out.rp HQ5.out.rq HTL.out).mono ?_; rintro e6 w6 ⟨rfl, n6, hw6⟩; have HQ6 : Hid (BQ w g gp gr ⟨2, rq, 0, sq⟩ ⟨Ht, Hq, Hr, Hs⟩ p q a x T A w6) := Lib.hid (by rw [hw6]; exact HQ5.out.drewN n6); clear hw6)
      go_wp2_with fail
      refine hK.out _ _ (BQ.s HQ6.out) (fun hHeld => ?_)
      clear hK K
      try simp only [Act.put, List.setIfInBounds_toArray, List.set_cons_zero, List.set_cons_succ]
      refine wpAnyH_take (i := 13) (oi := { dst := some 122, op := Op.pick (Operand.tmp 118) (Operand.tmp 121) (Operand.const (Value.bool false)), type := 4, pos := "law.go:48", after := #[{ on := 9, ground := Ground.data }, { on := 12, ground := Ground.data }], guard := none }) (v := ?_) (listed := hb13_l13) hb13_g13 hb13_nosel hb13_f13 hb13_r13 (fun _ _ _ h => h) (Or.inl ⟨by rfl, ?_⟩) (by assumption) ?_
      rotate_left
      focus (intro w hSw; (try dsimp only at hSw); go_simp; try (with_reducible rfl))
      try simp only [Act.put, List.setIfInBounds_toArray, List.set_cons_zero, List.set_cons_succ]
      refine wpAnyH_take (i := 14) (oi := { dst := some 123, op := Op.move (Operand.tmp 122), type := 4, pos := "law.go:48", after := #[{ on := 13, ground := Ground.data }, { on := 12, ground := Ground.chain }], guard := none }) (v := ?_) (listed := hb13_l14) hb13_g14 hb13_nosel hb13_f14 hb13_r14 (fun _ _ _ h => h) (Or.inl ⟨by rfl, ?_⟩) (by assumption) ?_
      rotate_left
      focus (intro w hSw; (try dsimp only at hSw); go_simp; try (with_reducible rfl))
      try simp only [Act.put, List.setIfInBounds_toArray, List.set_cons_zero, List.set_cons_succ]
      refine wpAnyH_take (i := 15) (oi := { dst := some 124, op := Op.move (Operand.tmp 16), type := 4, pos := "law.go:48", after := #[{ on := 14, ground := Ground.guard }], guard := some (14, true) }) (v := ?_) (listed := hb13_l15) hb13_g15 hb13_nosel hb13_f15 hb13_r15 (fun _ _ _ h => h) (Or.inl ⟨by rfl, ?_⟩) (by assumption) ?_
      rotate_left
      focus (intro w hSw; (try dsimp only at hSw); go_simp; try (with_reducible rfl))
      try simp only [Act.put, List.setIfInBounds_toArray, List.set_cons_zero, List.set_cons_succ]
      refine wpAnyH_take (i := 16) (oi := { dst := some 125, op := Op.move (Operand.tmp 18), type := 4, pos := "law.go:48", after := #[{ on := 14, ground := Ground.guard }], guard := some (14, true) }) (v := ?_) (listed := hb13_l16) hb13_g16 hb13_nosel hb13_f16 hb13_r16 (fun _ _ _ h => h) (Or.inl ⟨by rfl, ?_⟩) (by assumption) ?_
      rotate_left
      focus (intro w hSw; (try dsimp only at hSw); go_simp; try (with_reducible rfl))
      try simp only [Act.put, List.setIfInBounds_toArray, List.set_cons_zero, List.set_cons_succ]
      refine wpAnyH_take (i := 17) (oi := { dst := some 126, op := Op.binOp BinOp.eql 4 (Operand.tmp 124) (Operand.tmp 125) 4, type := 4, pos := "law.go:48", after := #[{ on := 15, ground := Ground.data }, { on := 16, ground := Ground.data }, { on := 14, ground := Ground.guard }], guard := some (14, true) }) (v := ?_) (listed := hb13_l17) hb13_g17 hb13_nosel hb13_f17 hb13_r17 (fun _ _ _ h => h) (Or.inl ⟨by rfl, ?_⟩) (by assumption) ?_
      rotate_left
      focus (intro w hSw; (try dsimp only at hSw); go_simp; try (with_reducible rfl))
      try simp only [Act.put, List.setIfInBounds_toArray, List.set_cons_zero, List.set_cons_succ]
      refine wpAnyH_take (i := 18) (oi := { dst := some 127, op := Op.pick (Operand.tmp 123) (Operand.tmp 126) (Operand.const (Value.bool false)), type := 4, pos := "law.go:48", after := #[{ on := 14, ground := Ground.data }, { on := 17, ground := Ground.data }], guard := none }) (v := ?_) (listed := hb13_l18) hb13_g18 hb13_nosel hb13_f18 hb13_r18 (fun _ _ _ h => h) (Or.inl ⟨by rfl, ?_⟩) (by assumption) ?_
      rotate_left
      focus (intro w hSw; (try dsimp only at hSw); go_simp; try (with_reducible rfl))
      try simp only [Act.put, List.setIfInBounds_toArray, List.set_cons_zero, List.set_cons_succ]
      refine wpAnyH_take (i := 19) (oi := { dst := some 128, op := Op.move (Operand.tmp 127), type := 4, pos := "law.go:48", after := #[{ on := 18, ground := Ground.data }, { on := 14, ground := Ground.chain }], guard := none }) (v := ?_) (listed := hb13_l19) hb13_g19 hb13_nosel hb13_f19 hb13_r19 (fun _ _ _ h => h) (Or.inl ⟨by rfl, ?_⟩) (by assumption) ?_
      rotate_left
      focus (intro w hSw; (try dsimp only at hSw); go_simp; try (with_reducible rfl))
      try simp only [Act.put, List.setIfInBounds_toArray, List.set_cons_zero, List.set_cons_succ]
      refine wpAnyH_take (i := 20) (oi := { dst := some 129, op := Op.move (Operand.tmp 15), type := 22, pos := "law.go:48", after := #[{ on := 19, ground := Ground.guard }], guard := some (19, true) }) (v := ?_) (listed := hb13_l20) hb13_g20 hb13_nosel hb13_f20 hb13_r20 (fun _ _ _ h => h) (Or.inl ⟨by rfl, ?_⟩) (by assumption) ?_
      rotate_left
      focus (intro w hSw; (try dsimp only at hSw); go_simp; try (with_reducible rfl))
      try simp only [Act.put, List.setIfInBounds_toArray, List.set_cons_zero, List.set_cons_succ]
      refine wpAnyH_take (i := 21) (oi := { dst := some 130, op := Op.move (Operand.tmp 17), type := 22, pos := "law.go:48", after := #[{ on := 19, ground := Ground.guard }], guard := some (19, true) }) (v := ?_) (listed := hb13_l21) hb13_g21 hb13_nosel hb13_f21 hb13_r21 (fun _ _ _ h => h) (Or.inl ⟨by rfl, ?_⟩) (by assumption) ?_
      rotate_left
      focus (intro w hSw; (try dsimp only at hSw); go_simp; try (with_reducible rfl))
      try simp only [Act.put, List.setIfInBounds_toArray, List.set_cons_zero, List.set_cons_succ]
      refine wpAnyH_ready (rs := [22]) (listed := hb13_l22) hb13_r22 (by simp) (AllReadyH.cons (o := { dst := some 131, op := Op.call { callee := Callee.value (Operand.func 22), args := #[Operand.tmp 129, Operand.tmp 130], argTypes := #[22, 22] }, type := 4, pos := "law.go:48", after := #[{ on := 20, ground := Ground.data }, { on := 21, ground := Ground.data }, { on := 19, ground := Ground.chain }, { on := 19, ground := Ground.guard }], guard := some (19, true) }) hb13_g22 (fun K hK => ?_) AllReadyH.nil)
      rw [if_pos (by rfl)]
      go_simp
      (go_at_call 22; refine (same_t _ _ A _ HQ6.out.ra HQ6.out.rx HAL.out).mono ?_; rintro e7 w7 ⟨rfl, n7, hw7⟩; have HQ7 : Hid (BQ w g gp gr ⟨2, rq, 0, sq⟩ ⟨Ht, Hq, Hr, Hs⟩ p q a x T A w7) := Lib.hid (by rw [hw7]; exact HQ6.out.drewN n7); clear hw7)
      go_wp2_with fail
      refine hK.out _ _ (BQ.s HQ7.out) (fun hHeld => ?_)
      clear hK K
      try simp only [Act.put, List.setIfInBounds_toArray, List.set_cons_zero, List.set_cons_succ]
      refine wpAnyH_take (i := 23) (oi := { dst := some 132, op := Op.pick (Operand.tmp 128) (Operand.tmp 131) (Operand.const (Value.bool false)), type := 4, pos := "law.go:48", after := #[{ on := 19, ground := Ground.data }, { on := 22, ground := Ground.data }], guard := none }) (v := ?_) (listed := hb13_l23) hb13_g23 hb13_nosel hb13_f23 hb13_r23 (fun _ _ _ h => h) (Or.inl ⟨by rfl, ?_⟩) (by assumption) ?_
      rotate_left
      focus (intro w hSw; (try dsimp only at hSw); go_simp; try (with_reducible rfl))
      try simp only [Act.put, List.setIfInBounds_toArray, List.set_cons_zero, List.set_cons_succ]
      refine wpAnyH_take (i := 24) (oi := { dst := some 133, op := Op.move (Operand.tmp 132), type := 4, pos := "law.go:48", after := #[{ on := 23, ground := Ground.data }, { on := 22, ground := Ground.chain }], guard := none }) (v := ?_) (listed := hb13_l24) hb13_g24 hb13_nosel hb13_f24 hb13_r24 (fun _ _ _ h => h) (Or.inl ⟨by rfl, ?_⟩) (by assumption) ?_
      rotate_left
      focus (intro w hSw; (try dsimp only at hSw); go_simp; try (with_reducible rfl))
      try simp only [Act.put, List.setIfInBounds_toArray, List.set_cons_zero, List.set_cons_succ]
      refine wpAnyH_take (i := 25) (oi := { dst := some 134, op := Op.move (Operand.tmp 2), type := 26, pos := "law.go:48", after := #[{ on := 24, ground := Ground.guard }], guard := some (24, true) }) (v := ?_) (listed := hb13_l25) hb13_g25 hb13_nosel hb13_f25 hb13_r25 (fun _ _ _ h => h) (Or.inl ⟨by rfl, ?_⟩) (by assumption) ?_
      rotate_left
      focus (intro w hSw; (try dsimp only at hSw); go_simp; try (with_reducible rfl))
      try simp only [Act.put, List.setIfInBounds_toArray, List.set_cons_zero, List.set_cons_succ]
      refine wpAnyH_take (i := 27) (oi := { dst := some 136, op := Op.move (Operand.tmp 2), type := 26, pos := "law.go:48", after := #[{ on := 24, ground := Ground.guard }], guard := some (24, true) }) (v := ?_) (listed := hb13_l26) hb13_g27 hb13_nosel hb13_f26 hb13_r26 (fun _ _ _ h => h) (Or.inl ⟨by rfl, ?_⟩) (by assumption) ?_
      rotate_left
      focus (intro w hSw; (try dsimp only at hSw); go_simp; try (with_reducible rfl))
      try simp only [Act.put, List.setIfInBounds_toArray, List.set_cons_zero, List.set_cons_succ]
      refine wpAnyH_ready (rs := [26]) (listed := hb13_l27) hb13_r27 (by simp) (AllReadyH.cons (o := { dst := some 135, op := Op.call { callee := Callee.value (Operand.func 23), args := #[Operand.tmp 134], argTypes := #[26] }, type := 5, pos := "law.go:48", after := #[{ on := 25, ground := Ground.data }, { on := 24, ground := Ground.chain }, { on := 24, ground := Ground.guard }], guard := some (24, true) }) hb13_g26 (fun K hK => ?_) AllReadyH.nil)
      rw [if_pos (by rfl)]
      go_simp
      (go_at_call 23; refine (hcode_any e _).mono ?_; rintro e8 w8 ⟨rfl, rfl⟩)
      go_wp2_with fail
      refine hK.out _ _ (BQ.s HQ7.out) (fun hHeld => ?_)
      clear hK K
      try simp only [Act.put, List.setIfInBounds_toArray, List.set_cons_zero, List.set_cons_succ]
      refine wpAnyH_ready (rs := [28]) (listed := hb13_l28) hb13_r28 (by simp) (AllReadyH.cons (o := { dst := some 137, op := Op.call { callee := Callee.value (Operand.func 24), args := #[Operand.tmp 136], argTypes := #[3] }, type := 5, pos := "law.go:48", after := #[{ on := 27, ground := Ground.data }, { on := 26, ground := Ground.chain }, { on := 24, ground := Ground.guard }], guard := some (24, true) }) hb13_g28 (fun K hK => ?_) AllReadyH.nil)
      rw [if_pos (by rfl)]
      go_simp
      (go_at_call 24; refine (rcode_any e _).mono ?_; rintro e9 w9 ⟨rfl, rfl⟩)
      go_wp2_with fail
      refine hK.out _ _ (BQ.s HQ7.out) (fun hHeld => ?_)
      clear hK K
      try simp only [Act.put, List.setIfInBounds_toArray, List.set_cons_zero, List.set_cons_succ]
      refine wpAnyH_take (i := 29) (oi := { dst := some 138, op := Op.binOp BinOp.eql 5 (Operand.tmp 135) (Operand.tmp 137) 5, type := 4, pos := "law.go:48", after := #[{ on := 26, ground := Ground.data }, { on := 28, ground := Ground.data }, { on := 24, ground := Ground.guard }], guard := some (24, true) }) (v := ?_) (listed := hb13_l29) hb13_g29 hb13_nosel hb13_f29 hb13_r29 (fun _ _ _ h => h) (Or.inl ⟨by rfl, ?_⟩) (by assumption) ?_
      rotate_left
      focus (intro w hSw; (try dsimp only at hSw); go_simp; try (with_reducible rfl))
      try simp only [Act.put, List.setIfInBounds_toArray, List.set_cons_zero, List.set_cons_succ]
      refine wpAnyH_take (i := 30) (oi := { dst := some 139, op := Op.pick (Operand.tmp 133) (Operand.tmp 138) (Operand.const (Value.bool false)), type := 4, pos := "law.go:48", after := #[{ on := 24, ground := Ground.data }, { on := 29, ground := Ground.data }], guard := none }) (v := ?_) (listed := hb13_l30) hb13_g30 hb13_nosel hb13_f30 hb13_r30 (fun _ _ _ h => h) (Or.inl ⟨by rfl, ?_⟩) (by assumption) ?_
      rotate_left
      focus (intro w hSw; (try dsimp only at hSw); go_simp; try (with_reducible rfl))
      try simp only [Act.put, List.setIfInBounds_toArray, List.set_cons_zero, List.set_cons_succ]
      refine wpAnyH_take (i := 31) (oi := { dst := some 140, op := Op.move (Operand.tmp 139), type := 4, pos := "law.go:48", after := #[{ on := 30, ground := Ground.data }, { on := 28, ground := Ground.chain }], guard := none }) (v := ?_) (listed := hb13_l31) hb13_g31 hb13_nosel hb13_f31 hb13_r31 (fun _ _ _ h => h) (Or.inl ⟨by rfl, ?_⟩) (by assumption) ?_
      rotate_left
      focus (intro w hSw; (try dsimp only at hSw); go_simp; try (with_reducible rfl))
      try simp only [Act.put, List.setIfInBounds_toArray, List.set_cons_zero, List.set_cons_succ]
      refine wpAnyH_take (i := 32) (oi := { dst := some 141, op := Op.load 25 (Operand.tmp 5), type := 25, pos := "law.go:48", after := #[{ on := 31, ground := Ground.guard }], guard := some (31, true) }) (v := ?_) (listed := hb13_l32) hb13_g32 hb13_nosel hb13_f32 hb13_r32 (fun _ _ _ h => h) (Or.inl ⟨by rfl, ?_⟩) (by assumption) ?_
      rotate_left
      focus (intro w hSw; (try dsimp only at hSw); go_simp; try (with_reducible rfl))
      try simp only [Act.put, List.setIfInBounds_toArray, List.set_cons_zero, List.set_cons_succ]
      refine wpAnyH_take (i := 33) (oi := { dst := some 142, op := Op.move (Operand.tmp 3), type := 22, pos := "law.go:48", after := #[{ on := 31, ground := Ground.guard }], guard := some (31, true) }) (v := ?_) (listed := hb13_l33) hb13_g33 hb13_nosel hb13_f33 hb13_r33 (fun _ _ _ h => h) (Or.inl ⟨by rfl, ?_⟩) (by assumption) ?_
      rotate_left
      focus (intro w hSw; (try dsimp only at hSw); go_simp; try (with_reducible rfl))
      try simp only [Act.put, List.setIfInBounds_toArray, List.set_cons_zero, List.set_cons_succ]
      refine wpAnyH_take (i := 35) (oi := { dst := some 144, op := Op.load 25 (Operand.tmp 5), type := 25, pos := "law.go:48", after := #[{ on := 31, ground := Ground.guard }], guard := some (31, true) }) (v := ?_) (listed := hb13_l34) hb13_g35 hb13_nosel hb13_f34 hb13_r34 (fun _ _ _ h => h) (Or.inl ⟨by rfl, ?_⟩) (by assumption) ?_
      rotate_left
      focus (intro w hSw; (try dsimp only at hSw); go_simp; try (with_reducible rfl))
      try simp only [Act.put, List.setIfInBounds_toArray, List.set_cons_zero, List.set_cons_succ]
      refine wpAnyH_take (i := 37) (oi := { dst := some 146, op := Op.move (Operand.tmp 3), type := 22, pos := "law.go:48", after := #[{ on := 31, ground := Ground.guard }], guard := some (31, true) }) (v := ?_) (listed := hb13_l35) hb13_g37 hb13_nosel hb13_f35 hb13_r35 (fun _ _ _ h => h) (Or.inl ⟨by rfl, ?_⟩) (by assumption) ?_
      rotate_left
      focus (intro w hSw; (try dsimp only at hSw); go_simp; try (with_reducible rfl))
      try simp only [Act.put, List.setIfInBounds_toArray, List.set_cons_zero, List.set_cons_succ]
      refine wpAnyH_ready (rs := [34]) (listed := hb13_l36) hb13_r36 (by simp) (AllReadyH.cons (o := { dst := some 143, op := Op.call { callee := Callee.value (Operand.func 25), args := #[Operand.tmp 141, Operand.tmp 142], argTypes := #[25, 22] }, type := 22, pos := "law.go:48", after := #[{ on := 32, ground := Ground.data }, { on := 33, ground := Ground.data }, { on := 31, ground := Ground.chain }, { on := 31, ground := Ground.guard }], guard := some (31, true) }) hb13_g34 (fun K hK => ?_) AllReadyH.nil)
      rw [if_pos (by rfl)]
      go_simp
      (go_at_call 25; refine (hwrite_any ⟨2, rq, 0, sq⟩ HKO.out _ [x0] _ (HWR.out _ HQ7.out.old) (cut_nil HCM.out) HML.out).mono ?_; rintro ea wa ⟨pa, rfl, ha, ba⟩; have HA := Lib.hid ha.row; have HQA := Lib.hid (HQ7.out.below ba); clear ha ba)
      go_wp2_with fail
      refine hK.out _ _ (BQ.s HQA.out) (fun hHeld => ?_)
      clear hK K
      try simp only [Act.put, List.setIfInBounds_toArray, List.set_cons_zero, List.set_cons_succ]
      refine wpAnyH_ready (rs := [36]) (listed := hb13_l37) hb13_r37 (by simp) (AllReadyH.cons (o := { dst := some 145, op := Op.call { callee := Callee.value (Operand.func 20), args := #[Operand.tmp 144], argTypes := #[25] }, type := 31, pos := "law.go:48", after := #[{ on := 35, ground := Ground.data }, { on := 34, ground := Ground.chain }, { on := 31, ground := Ground.guard }], guard := some (31, true) }) hb13_g36 (fun K hK => ?_) AllReadyH.nil)
      rw [if_pos (by rfl)]
      go_simp
      (go_at_call 20; refine (has_any ⟨2, rq, 0, sq⟩ HKO.out _).mono ?_; rintro eb wb ⟨rfl, bb⟩; simp only [rhA]; have HQB := Lib.hid (HQA.out.below bb); have HB := Lib.hid (HA.out.below bb); clear bb)
      go_wp2_with fail
      refine hK.out _ _ (BQ.s HQB.out) (fun hHeld => ?_)
      clear hK K
      try simp only [Act.put, List.setIfInBounds_toArray, List.set_cons_zero, List.set_cons_succ]
      refine wpAnyH_ready (rs := [38]) (listed := hb13_l38) hb13_r38 (by simp) (AllReadyH.cons (o := { dst := some 147, op := Op.call { callee := Callee.value (Operand.func 26), args := #[Operand.tmp 145, Operand.tmp 146], argTypes := #[31, 22] }, type := 22, pos := "law.go:48", after := #[{ on := 36, ground := Ground.data }, { on := 37, ground := Ground.data }, { on := 36, ground := Ground.chain }, { on := 31, ground := Ground.guard }], guard := some (31, true) }) hb13_g38 (fun K hK => ?_) AllReadyH.nil)
      rw [if_pos (by rfl)]
      go_simp
      (go_at_call 26; refine (rwrite_any ⟨2, rq, 0, sq⟩ HKO.out _ [x0] _ (HWR.out _ HQB.out.old) HML.out).mono ?_; rintro ec wc ⟨pc, rfl, hc, bc⟩; have HC := Lib.hid hc.row; have HQC := Lib.hid (HQB.out.below bc); have HBC := Lib.hid (HB.out.below bc); clear hc bc)
      go_wp2_with fail
      refine hK.out _ _ (BQ.s HQC.out) (fun hHeld => ?_)
      clear hK K
      try simp only [Act.put, List.setIfInBounds_toArray, List.set_cons_zero, List.set_cons_succ]
      refine wpAnyH_ready (rs := [39]) (listed := hb13_l39) hb13_r39 (by simp) (AllReadyH.cons (o := { dst := some 148, op := Op.call { callee := Callee.value (Operand.func 22), args := #[Operand.tmp 143, Operand.tmp 147], argTypes := #[22, 22] }, type := 4, pos := "law.go:48", after := #[{ on := 34, ground := Ground.data }, { on := 38, ground := Ground.data }, { on := 38, ground := Ground.chain }, { on := 31, ground := Ground.guard }], guard := some (31, true) }) hb13_g39 (fun K hK => ?_) AllReadyH.nil)
      rw [if_pos (by rfl)]
      go_simp
      (go_at_call 22; refine (same_t _ _ (hdL ⟨2, rq, 0, sq⟩ ++ [x0]) _ HBC.out HC.out HHL.out).mono ?_; rintro ed wd ⟨rfl, nd, hwd⟩; have HQD : Hid (BQ w g gp gr ⟨2, rq, 0, sq⟩ ⟨Ht, Hq, Hr, Hs⟩ p q a x T A wd) := Lib.hid (by rw [hwd]; exact HQC.out.drewN nd); clear hwd)
      go_wp2_with fail
      refine hK.out _ _ (BQ.s HQD.out) (fun hHeld => ?_)
      clear hK K
      try simp only [Act.put, List.setIfInBounds_toArray, List.set_cons_zero, List.set_cons_succ]
      refine wpAnyH_take (i := 40) (oi := { dst := some 149, op := Op.pick (Operand.tmp 140) (Operand.tmp 148) (Operand.const (Value.bool false)), type := 4, pos := "law.go:48", after := #[{ on := 31, ground := Ground.data }, { on := 39, ground := Ground.data }], guard := none }) (v := ?_) (listed := hb13_l40) hb13_g40 hb13_nosel hb13_f40 hb13_r40 (fun _ _ _ h => h) (Or.inl ⟨by rfl, ?_⟩) (by assumption) ?_
      rotate_left
      focus (intro w hSw; (try dsimp only at hSw); go_simp; try (with_reducible rfl))
      try simp only [Act.put, List.setIfInBounds_toArray, List.set_cons_zero, List.set_cons_succ]
      refine wpAnyH_take (i := 41) (oi := { dst := some 8, op := Op.assign (Operand.tmp 149), type := 4, pos := "law.go:48", after := #[{ on := 40, ground := Ground.data }, { on := 39, ground := Ground.chain }, { on := 0, ground := Ground.phase }, { on := 1, ground := Ground.phase }, { on := 2, ground := Ground.phase }, { on := 3, ground := Ground.phase }, { on := 4, ground := Ground.phase }, { on := 5, ground := Ground.phase }, { on := 6, ground := Ground.phase }, { on := 7, ground := Ground.phase }, { on := 8, ground := Ground.phase }, { on := 9, ground := Ground.phase }, { on := 10, ground := Ground.phase }, { on := 11, ground := Ground.phase }, { on := 12, ground := Ground.phase }, { on := 13, ground := Ground.phase }, { on := 14, ground := Ground.phase }, { on := 15, ground := Ground.phase }, { on := 16, ground := Ground.phase }, { on := 17, ground := Ground.phase }, { on := 18, ground := Ground.phase }, { on := 19, ground := Ground.phase }, { on := 20, ground := Ground.phase }, { on := 21, ground := Ground.phase }, { on := 22, ground := Ground.phase }, { on := 23, ground := Ground.phase }, { on := 24, ground := Ground.phase }, { on := 25, ground := Ground.phase }, { on := 26, ground := Ground.phase }, { on := 27, ground := Ground.phase }, { on := 28, ground := Ground.phase }, { on := 29, ground := Ground.phase }, { on := 30, ground := Ground.phase }, { on := 31, ground := Ground.phase }, { on := 32, ground := Ground.phase }, { on := 33, ground := Ground.phase }, { on := 34, ground := Ground.phase }, { on := 35, ground := Ground.phase }, { on := 36, ground := Ground.phase }, { on := 37, ground := Ground.phase }, { on := 38, ground := Ground.phase }, { on := 39, ground := Ground.phase }, { on := 40, ground := Ground.phase }], guard := none }) (v := ?_) (listed := hb13_l41) hb13_g41 hb13_nosel hb13_f41 hb13_r41 (fun _ _ _ h => h) (Or.inl ⟨by rfl, ?_⟩) (by assumption) ?_
      rotate_left
      focus (intro w hSw; (try dsimp only at hSw); go_simp; try (with_reducible rfl))
      try simp only [Act.put, List.setIfInBounds_toArray, List.set_cons_zero, List.set_cons_succ]
      refine wpAnyH_done (listed := hb13_l42) hb13_end ?_ _
      go_wp2
      go_ret
      exact ⟨rfl, HQD.out.old⟩
    · skip
      go_wp2_with fail
      refine (sense_yes ⟨2, rq, 1, sq⟩ _ x0 W8 rfl (by simp) (HWR.out _ HB0.out.old)).mono ?_
      rintro e9 W9 ⟨rfl, b9⟩
      have HB9 := Lib.hid (HB0.out.below b9)
      obtain ⟨bm, om, rfl, hcx⟩ := row_first8 (HWR.out W9 HB9.out.old)
      clear c0 c1 c2 c3 b9
      obtain ⟨c0, c1, c2, c3, _⟩ := HB9.out.s
      simp only at c0 c1 c2 c3
      go_upto_region 13 with fail
      have HQ0 := Lib.hid (HB9.out.drew)
      clear c0 c1 c2 c3
      change Code.wp _ (Code.region 13 hb13 true) _ _ _
      refine wp_region_held_drew (S := (fun W => W.cell? ⟨g, 0, none⟩ = some (.int .u8 2) ∧ W.cell? ⟨g, 1, none⟩ = some (.int .u8 rq) ∧ W.cell? ⟨g, 2, none⟩ = some (.int .u8 1) ∧ W.cell? ⟨g, 3, none⟩ = some (.int .u16 sq) ∧ W.cell? ⟨gp, 0, none⟩ = some (.int .u8 Ht) ∧ W.cell? ⟨gp, 1, none⟩ = some (.int .u8 Hq) ∧ W.cell? ⟨gp, 2, none⟩ = some (.int .u8 Hr) ∧ W.cell? ⟨gp, 3, none⟩ = some (.int .u16 Hs) ∧ W.cell? ⟨gr, 0, none⟩ = some (.int .u8 Ht) ∧ W.cell? ⟨gr, 1, none⟩ = some (.int .u8 Hq) ∧ W.cell? ⟨gr, 2, none⟩ = some (.int .u8 Hr) ∧ W.cell? ⟨gr, 3, none⟩ = some (.int .i64 Hs))) (by kernel_rfl) (HQ0.out.s) (fun hHeld => ?_)
      change wpAnyH _ .any hb13 _ _ 42 hb13_l0 _ _
      refine wpAnyH_take (i := 0) (oi := { dst := some 109, op := Op.move (Operand.tmp 11), type := 26, pos := "law.go:48", after := #[], guard := none }) (v := ?_) (listed := hb13_l0) hb13_g0 hb13_nosel hb13_f0 hb13_r0 (fun _ _ _ h => h) (Or.inl ⟨by rfl, ?_⟩) (by assumption) ?_
      rotate_left
      focus (intro w hSw; (try dsimp only at hSw); go_simp; try (with_reducible rfl))
      try simp only [Act.put, List.setIfInBounds_toArray, List.set_cons_zero, List.set_cons_succ]
      refine wpAnyH_take (i := 1) (oi := { dst := some 110, op := Op.move (Operand.tmp 14), type := 3, pos := "law.go:48", after := #[], guard := none }) (v := ?_) (listed := hb13_l1) hb13_g1 hb13_nosel hb13_f1 hb13_r1 (fun _ _ _ h => h) (Or.inl ⟨by rfl, ?_⟩) (by assumption) ?_
      rotate_left
      focus (intro w hSw; (try dsimp only at hSw); go_simp; try (with_reducible rfl))
      try simp only [Act.put, List.setIfInBounds_toArray, List.set_cons_zero, List.set_cons_succ]
      refine wpAnyH_take (i := 2) (oi := { dst := some 111, op := Op.binOp BinOp.eql 3 (Operand.tmp 109) (Operand.tmp 110) 3, type := 4, pos := "law.go:48", after := #[{ on := 0, ground := Ground.data }, { on := 1, ground := Ground.data }], guard := none }) (v := ?_) (listed := hb13_l2) hb13_g2 hb13_nosel hb13_f2 hb13_r2 (fun _ _ _ h => h) (Or.inl ⟨by rfl, ?_⟩) (by assumption) ?_
      rotate_left
      focus (intro w hSw; (try dsimp only at hSw); go_simp; try (with_reducible rfl))
      try simp only [Act.put, List.setIfInBounds_toArray, List.set_cons_zero, List.set_cons_succ]
      refine wpAnyH_take (i := 3) (oi := { dst := some 112, op := Op.move (Operand.tmp 111), type := 4, pos := "law.go:48", after := #[{ on := 2, ground := Ground.data }], guard := none }) (v := ?_) (listed := hb13_l3) hb13_g3 hb13_nosel hb13_f3 hb13_r3 (fun _ _ _ h => h) (Or.inl ⟨by rfl, ?_⟩) (by assumption) ?_
      rotate_left
      focus (intro w hSw; (try dsimp only at hSw); go_simp; try (with_reducible rfl))
      try simp only [Act.put, List.setIfInBounds_toArray, List.set_cons_zero, List.set_cons_succ]
      refine wpAnyH_take (i := 4) (oi := { dst := some 113, op := Op.load 25 (Operand.tmp 9), type := 25, pos := "law.go:48", after := #[{ on := 3, ground := Ground.guard }], guard := some (3, true) }) (v := ?_) (listed := hb13_l4) hb13_g4 hb13_nosel hb13_f4 hb13_r4 (fun _ _ _ h => h) (Or.inl ⟨by rfl, ?_⟩) (by assumption) ?_
      rotate_left
      focus (intro w hSw; (try dsimp only at hSw); go_simp; try (with_reducible rfl))
      try simp only [Act.put, List.setIfInBounds_toArray, List.set_cons_zero, List.set_cons_succ]
      refine wpAnyH_take (i := 6) (oi := { dst := some 115, op := Op.load 31 (Operand.tmp 12), type := 31, pos := "law.go:48", after := #[{ on := 3, ground := Ground.guard }], guard := some (3, true) }) (v := ?_) (listed := hb13_l5) hb13_g6 hb13_nosel hb13_f5 hb13_r5 (fun _ _ _ h => h) (Or.inl ⟨by rfl, ?_⟩) (by assumption) ?_
      rotate_left
      focus (intro w hSw; (try dsimp only at hSw); go_simp; try (with_reducible rfl))
      try simp only [Act.put, List.setIfInBounds_toArray, List.set_cons_zero, List.set_cons_succ]
      refine wpAnyH_ready (rs := [5]) (listed := hb13_l6) hb13_r6 (by simp) (AllReadyH.cons (o := { dst := some 114, op := Op.call { callee := Callee.value (Operand.func 20), args := #[Operand.tmp 113], argTypes := #[25] }, type := 31, pos := "law.go:48", after := #[{ on := 4, ground := Ground.data }, { on := 3, ground := Ground.chain }, { on := 3, ground := Ground.guard }], guard := some (3, true) }) hb13_g5 (fun K hK => ?_) AllReadyH.nil)
      rw [if_pos (by rfl)]
      go_simp
      (go_at_call 20; refine (has_any ⟨Ht, Hq, Hr, Hs⟩ HKH.out _).mono ?_; rintro e5 w5 ⟨rfl, b5⟩; simp only [rhA]; have HQ5 := Lib.hid (HQ0.out.below b5); clear b5)
      go_wp2_with fail
      refine hK.out _ _ (BQ.s HQ5.out) (fun hHeld => ?_)
      clear hK K
      try simp only [Act.put, List.setIfInBounds_toArray, List.set_cons_zero, List.set_cons_succ]
      refine wpAnyH_take (i := 7) (oi := { dst := some 116, op := Op.binOp BinOp.eql 31 (Operand.tmp 114) (Operand.tmp 115) 31, type := 4, pos := "law.go:48", after := #[{ on := 5, ground := Ground.data }, { on := 6, ground := Ground.data }, { on := 3, ground := Ground.guard }], guard := some (3, true) }) (v := ?_) (listed := hb13_l7) hb13_g7 hb13_nosel hb13_f7 hb13_r7 (fun _ _ _ h => h) (Or.inl ⟨by rfl, ?_⟩) (by assumption) ?_
      rotate_left
      focus (intro w hSw; (try dsimp only at hSw); go_simp; try (with_reducible rfl))
      try simp only [Act.put, List.setIfInBounds_toArray, List.set_cons_zero, List.set_cons_succ]
      refine wpAnyH_take (i := 8) (oi := { dst := some 117, op := Op.pick (Operand.tmp 112) (Operand.tmp 116) (Operand.const (Value.bool false)), type := 4, pos := "law.go:48", after := #[{ on := 3, ground := Ground.data }, { on := 7, ground := Ground.data }], guard := none }) (v := ?_) (listed := hb13_l8) hb13_g8 hb13_nosel hb13_f8 hb13_r8 (fun _ _ _ h => h) (Or.inl ⟨by rfl, ?_⟩) (by assumption) ?_
      rotate_left
      focus (intro w hSw; (try dsimp only at hSw); go_simp; try (with_reducible rfl))
      try simp only [Act.put, List.setIfInBounds_toArray, List.set_cons_zero, List.set_cons_succ]
      refine wpAnyH_take (i := 9) (oi := { dst := some 118, op := Op.move (Operand.tmp 117), type := 4, pos := "law.go:48", after := #[{ on := 8, ground := Ground.data }, { on := 5, ground := Ground.chain }], guard := none }) (v := ?_) (listed := hb13_l9) hb13_g9 hb13_nosel hb13_f9 hb13_r9 (fun _ _ _ h => h) (Or.inl ⟨by rfl, ?_⟩) (by assumption) ?_
      rotate_left
      focus (intro w hSw; (try dsimp only at hSw); go_simp; try (with_reducible rfl))
      try simp only [Act.put, List.setIfInBounds_toArray, List.set_cons_zero, List.set_cons_succ]
      refine wpAnyH_take (i := 10) (oi := { dst := some 119, op := Op.move (Operand.tmp 10), type := 22, pos := "law.go:48", after := #[{ on := 9, ground := Ground.guard }], guard := some (9, true) }) (v := ?_) (listed := hb13_l10) hb13_g10 hb13_nosel hb13_f10 hb13_r10 (fun _ _ _ h => h) (Or.inl ⟨by rfl, ?_⟩) (by assumption) ?_
      rotate_left
      focus (intro w hSw; (try dsimp only at hSw); go_simp; try (with_reducible rfl))
      try simp only [Act.put, List.setIfInBounds_toArray, List.set_cons_zero, List.set_cons_succ]
      refine wpAnyH_take (i := 11) (oi := { dst := some 120, op := Op.move (Operand.tmp 13), type := 22, pos := "law.go:48", after := #[{ on := 9, ground := Ground.guard }], guard := some (9, true) }) (v := ?_) (listed := hb13_l11) hb13_g11 hb13_nosel hb13_f11 hb13_r11 (fun _ _ _ h => h) (Or.inl ⟨by rfl, ?_⟩) (by assumption) ?_
      rotate_left
      focus (intro w hSw; (try dsimp only at hSw); go_simp; try (with_reducible rfl))
      try simp only [Act.put, List.setIfInBounds_toArray, List.set_cons_zero, List.set_cons_succ]
      refine wpAnyH_ready (rs := [12]) (listed := hb13_l12) hb13_r12 (by simp) (AllReadyH.cons (o := { dst := some 121, op := Op.call { callee := Callee.value (Operand.func 22), args := #[Operand.tmp 119, Operand.tmp 120], argTypes := #[22, 22] }, type := 4, pos := "law.go:48", after := #[{ on := 10, ground := Ground.data }, { on := 11, ground := Ground.data }, { on := 9, ground := Ground.chain }, { on := 9, ground := Ground.guard }], guard := some (9, true) }) hb13_g12 (fun K hK => ?_) AllReadyH.nil)
      rw [if_pos (by rfl)]
      go_simp
      (go_at_call 22; refine (same_t _ _ T _ HQ5.out.rp HQ5.out.rq HTL.out).mono ?_; rintro e6 w6 ⟨rfl, n6, hw6⟩; have HQ6 : Hid (BQ w g gp gr ⟨2, rq, 1, sq⟩ ⟨Ht, Hq, Hr, Hs⟩ p q a x T A w6) := Lib.hid (by rw [hw6]; exact HQ5.out.drewN n6); clear hw6)
      go_wp2_with fail
      refine hK.out _ _ (BQ.s HQ6.out) (fun hHeld => ?_)
      clear hK K
      try simp only [Act.put, List.setIfInBounds_toArray, List.set_cons_zero, List.set_cons_succ]
      refine wpAnyH_take (i := 13) (oi := { dst := some 122, op := Op.pick (Operand.tmp 118) (Operand.tmp 121) (Operand.const (Value.bool false)), type := 4, pos := "law.go:48", after := #[{ on := 9, ground := Ground.data }, { on := 12, ground := Ground.data }], guard := none }) (v := ?_) (listed := hb13_l13) hb13_g13 hb13_nosel hb13_f13 hb13_r13 (fun _ _ _ h => h) (Or.inl ⟨by rfl, ?_⟩) (by assumption) ?_
      rotate_left
      focus (intro w hSw; (try dsimp only at hSw); go_simp; try (with_reducible rfl))
      try simp only [Act.put, List.setIfInBounds_toArray, List.set_cons_zero, List.set_cons_succ]
      refine wpAnyH_take (i := 14) (oi := { dst := some 123, op := Op.move (Operand.tmp 122), type := 4, pos := "law.go:48", after := #[{ on := 13, ground := Ground.data }, { on := 12, ground := Ground.chain }], guard := none }) (v := ?_) (listed := hb13_l14) hb13_g14 hb13_nosel hb13_f14 hb13_r14 (fun _ _ _ h => h) (Or.inl ⟨by rfl, ?_⟩) (by assumption) ?_
      rotate_left
      focus (intro w hSw; (try dsimp only at hSw); go_simp; try (with_reducible rfl))
      try simp only [Act.put, List.setIfInBounds_toArray, List.set_cons_zero, List.set_cons_succ]
      refine wpAnyH_take (i := 15) (oi := { dst := some 124, op := Op.move (Operand.tmp 16), type := 4, pos := "law.go:48", after := #[{ on := 14, ground := Ground.guard }], guard := some (14, true) }) (v := ?_) (listed := hb13_l15) hb13_g15 hb13_nosel hb13_f15 hb13_r15 (fun _ _ _ h => h) (Or.inl ⟨by rfl, ?_⟩) (by assumption) ?_
      rotate_left
      focus (intro w hSw; (try dsimp only at hSw); go_simp; try (with_reducible rfl))
      try simp only [Act.put, List.setIfInBounds_toArray, List.set_cons_zero, List.set_cons_succ]
      refine wpAnyH_take (i := 16) (oi := { dst := some 125, op := Op.move (Operand.tmp 18), type := 4, pos := "law.go:48", after := #[{ on := 14, ground := Ground.guard }], guard := some (14, true) }) (v := ?_) (listed := hb13_l16) hb13_g16 hb13_nosel hb13_f16 hb13_r16 (fun _ _ _ h => h) (Or.inl ⟨by rfl, ?_⟩) (by assumption) ?_
      rotate_left
      focus (intro w hSw; (try dsimp only at hSw); go_simp; try (with_reducible rfl))
      try simp only [Act.put, List.setIfInBounds_toArray, List.set_cons_zero, List.set_cons_succ]
      refine wpAnyH_take (i := 17) (oi := { dst := some 126, op := Op.binOp BinOp.eql 4 (Operand.tmp 124) (Operand.tmp 125) 4, type := 4, pos := "law.go:48", after := #[{ on := 15, ground := Ground.data }, { on := 16, ground := Ground.data }, { on := 14, ground := Ground.guard }], guard := some (14, true) }) (v := ?_) (listed := hb13_l17) hb13_g17 hb13_nosel hb13_f17 hb13_r17 (fun _ _ _ h => h) (Or.inl ⟨by rfl, ?_⟩) (by assumption) ?_
      rotate_left
      focus (intro w hSw; (try dsimp only at hSw); go_simp; try (with_reducible rfl))
      try simp only [Act.put, List.setIfInBounds_toArray, List.set_cons_zero, List.set_cons_succ]
      refine wpAnyH_take (i := 18) (oi := { dst := some 127, op := Op.pick (Operand.tmp 123) (Operand.tmp 126) (Operand.const (Value.bool false)), type := 4, pos := "law.go:48", after := #[{ on := 14, ground := Ground.data }, { on := 17, ground := Ground.data }], guard := none }) (v := ?_) (listed := hb13_l18) hb13_g18 hb13_nosel hb13_f18 hb13_r18 (fun _ _ _ h => h) (Or.inl ⟨by rfl, ?_⟩) (by assumption) ?_
      rotate_left
      focus (intro w hSw; (try dsimp only at hSw); go_simp; try (with_reducible rfl))
      try simp only [Act.put, List.setIfInBounds_toArray, List.set_cons_zero, List.set_cons_succ]
      refine wpAnyH_take (i := 19) (oi := { dst := some 128, op := Op.move (Operand.tmp 127), type := 4, pos := "law.go:48", after := #[{ on := 18, ground := Ground.data }, { on := 14, ground := Ground.chain }], guard := none }) (v := ?_) (listed := hb13_l19) hb13_g19 hb13_nosel hb13_f19 hb13_r19 (fun _ _ _ h => h) (Or.inl ⟨by rfl, ?_⟩) (by assumption) ?_
      rotate_left
      focus (intro w hSw; (try dsimp only at hSw); go_simp; try (with_reducible rfl))
      try simp only [Act.put, List.setIfInBounds_toArray, List.set_cons_zero, List.set_cons_succ]
      refine wpAnyH_take (i := 20) (oi := { dst := some 129, op := Op.move (Operand.tmp 15), type := 22, pos := "law.go:48", after := #[{ on := 19, ground := Ground.guard }], guard := some (19, true) }) (v := ?_) (listed := hb13_l20) hb13_g20 hb13_nosel hb13_f20 hb13_r20 (fun _ _ _ h => h) (Or.inl ⟨by rfl, ?_⟩) (by assumption) ?_
      rotate_left
      focus (intro w hSw; (try dsimp only at hSw); go_simp; try (with_reducible rfl))
      try simp only [Act.put, List.setIfInBounds_toArray, List.set_cons_zero, List.set_cons_succ]
      refine wpAnyH_take (i := 21) (oi := { dst := some 130, op := Op.move (Operand.tmp 17), type := 22, pos := "law.go:48", after := #[{ on := 19, ground := Ground.guard }], guard := some (19, true) }) (v := ?_) (listed := hb13_l21) hb13_g21 hb13_nosel hb13_f21 hb13_r21 (fun _ _ _ h => h) (Or.inl ⟨by rfl, ?_⟩) (by assumption) ?_
      rotate_left
      focus (intro w hSw; (try dsimp only at hSw); go_simp; try (with_reducible rfl))
      try simp only [Act.put, List.setIfInBounds_toArray, List.set_cons_zero, List.set_cons_succ]
      refine wpAnyH_ready (rs := [22]) (listed := hb13_l22) hb13_r22 (by simp) (AllReadyH.cons (o := { dst := some 131, op := Op.call { callee := Callee.value (Operand.func 22), args := #[Operand.tmp 129, Operand.tmp 130], argTypes := #[22, 22] }, type := 4, pos := "law.go:48", after := #[{ on := 20, ground := Ground.data }, { on := 21, ground := Ground.data }, { on := 19, ground := Ground.chain }, { on := 19, ground := Ground.guard }], guard := some (19, true) }) hb13_g22 (fun K hK => ?_) AllReadyH.nil)
      rw [if_pos (by rfl)]
      go_simp
      (go_at_call 22; refine (same_t _ _ A _ HQ6.out.ra HQ6.out.rx HAL.out).mono ?_; rintro e7 w7 ⟨rfl, n7, hw7⟩; have HQ7 : Hid (BQ w g gp gr ⟨2, rq, 1, sq⟩ ⟨Ht, Hq, Hr, Hs⟩ p q a x T A w7) := Lib.hid (by rw [hw7]; exact HQ6.out.drewN n7); clear hw7)
      go_wp2_with fail
      refine hK.out _ _ (BQ.s HQ7.out) (fun hHeld => ?_)
      clear hK K
      try simp only [Act.put, List.setIfInBounds_toArray, List.set_cons_zero, List.set_cons_succ]
      refine wpAnyH_take (i := 23) (oi := { dst := some 132, op := Op.pick (Operand.tmp 128) (Operand.tmp 131) (Operand.const (Value.bool false)), type := 4, pos := "law.go:48", after := #[{ on := 19, ground := Ground.data }, { on := 22, ground := Ground.data }], guard := none }) (v := ?_) (listed := hb13_l23) hb13_g23 hb13_nosel hb13_f23 hb13_r23 (fun _ _ _ h => h) (Or.inl ⟨by rfl, ?_⟩) (by assumption) ?_
      rotate_left
      focus (intro w hSw; (try dsimp only at hSw); go_simp; try (with_reducible rfl))
      try simp only [Act.put, List.setIfInBounds_toArray, List.set_cons_zero, List.set_cons_succ]
      refine wpAnyH_take (i := 24) (oi := { dst := some 133, op := Op.move (Operand.tmp 132), type := 4, pos := "law.go:48", after := #[{ on := 23, ground := Ground.data }, { on := 22, ground := Ground.chain }], guard := none }) (v := ?_) (listed := hb13_l24) hb13_g24 hb13_nosel hb13_f24 hb13_r24 (fun _ _ _ h => h) (Or.inl ⟨by rfl, ?_⟩) (by assumption) ?_
      rotate_left
      focus (intro w hSw; (try dsimp only at hSw); go_simp; try (with_reducible rfl))
      try simp only [Act.put, List.setIfInBounds_toArray, List.set_cons_zero, List.set_cons_succ]
      refine wpAnyH_take (i := 25) (oi := { dst := some 134, op := Op.move (Operand.tmp 2), type := 26, pos := "law.go:48", after := #[{ on := 24, ground := Ground.guard }], guard := some (24, true) }) (v := ?_) (listed := hb13_l25) hb13_g25 hb13_nosel hb13_f25 hb13_r25 (fun _ _ _ h => h) (Or.inl ⟨by rfl, ?_⟩) (by assumption) ?_
      rotate_left
      focus (intro w hSw; (try dsimp only at hSw); go_simp; try (with_reducible rfl))
      try simp only [Act.put, List.setIfInBounds_toArray, List.set_cons_zero, List.set_cons_succ]
      refine wpAnyH_take (i := 27) (oi := { dst := some 136, op := Op.move (Operand.tmp 2), type := 26, pos := "law.go:48", after := #[{ on := 24, ground := Ground.guard }], guard := some (24, true) }) (v := ?_) (listed := hb13_l26) hb13_g27 hb13_nosel hb13_f26 hb13_r26 (fun _ _ _ h => h) (Or.inl ⟨by rfl, ?_⟩) (by assumption) ?_
      rotate_left
      focus (intro w hSw; (try dsimp only at hSw); go_simp; try (with_reducible rfl))
      try simp only [Act.put, List.setIfInBounds_toArray, List.set_cons_zero, List.set_cons_succ]
      refine wpAnyH_ready (rs := [26]) (listed := hb13_l27) hb13_r27 (by simp) (AllReadyH.cons (o := { dst := some 135, op := Op.call { callee := Callee.value (Operand.func 23), args := #[Operand.tmp 134], argTypes := #[26] }, type := 5, pos := "law.go:48", after := #[{ on := 25, ground := Ground.data }, { on := 24, ground := Ground.chain }, { on := 24, ground := Ground.guard }], guard := some (24, true) }) hb13_g26 (fun K hK => ?_) AllReadyH.nil)
      rw [if_pos (by rfl)]
      go_simp
      (go_at_call 23; refine (hcode_any e _).mono ?_; rintro e8 w8 ⟨rfl, rfl⟩)
      go_wp2_with fail
      refine hK.out _ _ (BQ.s HQ7.out) (fun hHeld => ?_)
      clear hK K
      try simp only [Act.put, List.setIfInBounds_toArray, List.set_cons_zero, List.set_cons_succ]
      refine wpAnyH_ready (rs := [28]) (listed := hb13_l28) hb13_r28 (by simp) (AllReadyH.cons (o := { dst := some 137, op := Op.call { callee := Callee.value (Operand.func 24), args := #[Operand.tmp 136], argTypes := #[3] }, type := 5, pos := "law.go:48", after := #[{ on := 27, ground := Ground.data }, { on := 26, ground := Ground.chain }, { on := 24, ground := Ground.guard }], guard := some (24, true) }) hb13_g28 (fun K hK => ?_) AllReadyH.nil)
      rw [if_pos (by rfl)]
      go_simp
      (go_at_call 24; refine (rcode_any e _).mono ?_; rintro e9 w9 ⟨rfl, rfl⟩)
      go_wp2_with fail
      refine hK.out _ _ (BQ.s HQ7.out) (fun hHeld => ?_)
      clear hK K
      try simp only [Act.put, List.setIfInBounds_toArray, List.set_cons_zero, List.set_cons_succ]
      refine wpAnyH_take (i := 29) (oi := { dst := some 138, op := Op.binOp BinOp.eql 5 (Operand.tmp 135) (Operand.tmp 137) 5, type := 4, pos := "law.go:48", after := #[{ on := 26, ground := Ground.data }, { on := 28, ground := Ground.data }, { on := 24, ground := Ground.guard }], guard := some (24, true) }) (v := ?_) (listed := hb13_l29) hb13_g29 hb13_nosel hb13_f29 hb13_r29 (fun _ _ _ h => h) (Or.inl ⟨by rfl, ?_⟩) (by assumption) ?_
      rotate_left
      focus (intro w hSw; (try dsimp only at hSw); go_simp; try (with_reducible rfl))
      try simp only [Act.put, List.setIfInBounds_toArray, List.set_cons_zero, List.set_cons_succ]
      refine wpAnyH_take (i := 30) (oi := { dst := some 139, op := Op.pick (Operand.tmp 133) (Operand.tmp 138) (Operand.const (Value.bool false)), type := 4, pos := "law.go:48", after := #[{ on := 24, ground := Ground.data }, { on := 29, ground := Ground.data }], guard := none }) (v := ?_) (listed := hb13_l30) hb13_g30 hb13_nosel hb13_f30 hb13_r30 (fun _ _ _ h => h) (Or.inl ⟨by rfl, ?_⟩) (by assumption) ?_
      rotate_left
      focus (intro w hSw; (try dsimp only at hSw); go_simp; try (with_reducible rfl))
      try simp only [Act.put, List.setIfInBounds_toArray, List.set_cons_zero, List.set_cons_succ]
      refine wpAnyH_take (i := 31) (oi := { dst := some 140, op := Op.move (Operand.tmp 139), type := 4, pos := "law.go:48", after := #[{ on := 30, ground := Ground.data }, { on := 28, ground := Ground.chain }], guard := none }) (v := ?_) (listed := hb13_l31) hb13_g31 hb13_nosel hb13_f31 hb13_r31 (fun _ _ _ h => h) (Or.inl ⟨by rfl, ?_⟩) (by assumption) ?_
      rotate_left
      focus (intro w hSw; (try dsimp only at hSw); go_simp; try (with_reducible rfl))
      try simp only [Act.put, List.setIfInBounds_toArray, List.set_cons_zero, List.set_cons_succ]
      refine wpAnyH_take (i := 32) (oi := { dst := some 141, op := Op.load 25 (Operand.tmp 5), type := 25, pos := "law.go:48", after := #[{ on := 31, ground := Ground.guard }], guard := some (31, true) }) (v := ?_) (listed := hb13_l32) hb13_g32 hb13_nosel hb13_f32 hb13_r32 (fun _ _ _ h => h) (Or.inl ⟨by rfl, ?_⟩) (by assumption) ?_
      rotate_left
      focus (intro w hSw; (try dsimp only at hSw); go_simp; try (with_reducible rfl))
      try simp only [Act.put, List.setIfInBounds_toArray, List.set_cons_zero, List.set_cons_succ]
      refine wpAnyH_take (i := 33) (oi := { dst := some 142, op := Op.move (Operand.tmp 3), type := 22, pos := "law.go:48", after := #[{ on := 31, ground := Ground.guard }], guard := some (31, true) }) (v := ?_) (listed := hb13_l33) hb13_g33 hb13_nosel hb13_f33 hb13_r33 (fun _ _ _ h => h) (Or.inl ⟨by rfl, ?_⟩) (by assumption) ?_
      rotate_left
      focus (intro w hSw; (try dsimp only at hSw); go_simp; try (with_reducible rfl))
      try simp only [Act.put, List.setIfInBounds_toArray, List.set_cons_zero, List.set_cons_succ]
      refine wpAnyH_take (i := 35) (oi := { dst := some 144, op := Op.load 25 (Operand.tmp 5), type := 25, pos := "law.go:48", after := #[{ on := 31, ground := Ground.guard }], guard := some (31, true) }) (v := ?_) (listed := hb13_l34) hb13_g35 hb13_nosel hb13_f34 hb13_r34 (fun _ _ _ h => h) (Or.inl ⟨by rfl, ?_⟩) (by assumption) ?_
      rotate_left
      focus (intro w hSw; (try dsimp only at hSw); go_simp; try (with_reducible rfl))
      try simp only [Act.put, List.setIfInBounds_toArray, List.set_cons_zero, List.set_cons_succ]
      refine wpAnyH_take (i := 37) (oi := { dst := some 146, op := Op.move (Operand.tmp 3), type := 22, pos := "law.go:48", after := #[{ on := 31, ground := Ground.guard }], guard := some (31, true) }) (v := ?_) (listed := hb13_l35) hb13_g37 hb13_nosel hb13_f35 hb13_r35 (fun _ _ _ h => h) (Or.inl ⟨by rfl, ?_⟩) (by assumption) ?_
      rotate_left
      focus (intro w hSw; (try dsimp only at hSw); go_simp; try (with_reducible rfl))
      try simp only [Act.put, List.setIfInBounds_toArray, List.set_cons_zero, List.set_cons_succ]
      refine wpAnyH_ready (rs := [34]) (listed := hb13_l36) hb13_r36 (by simp) (AllReadyH.cons (o := { dst := some 143, op := Op.call { callee := Callee.value (Operand.func 25), args := #[Operand.tmp 141, Operand.tmp 142], argTypes := #[25, 22] }, type := 22, pos := "law.go:48", after := #[{ on := 32, ground := Ground.data }, { on := 33, ground := Ground.data }, { on := 31, ground := Ground.chain }, { on := 31, ground := Ground.guard }], guard := some (31, true) }) hb13_g34 (fun K hK => ?_) AllReadyH.nil)
      rw [if_pos (by rfl)]
      go_simp
      (go_at_call 25; refine (hwrite_any ⟨2, rq, 1, sq⟩ HKO.out _ [x0] _ (HWR.out _ HQ7.out.old) (cut_nil HCM.out) HML.out).mono ?_; rintro ea wa ⟨pa, rfl, ha, ba⟩; have HA := Lib.hid ha.row; have HQA := Lib.hid (HQ7.out.below ba); clear ha ba)
      go_wp2_with fail
      refine hK.out _ _ (BQ.s HQA.out) (fun hHeld => ?_)
      clear hK K
      try simp only [Act.put, List.setIfInBounds_toArray, List.set_cons_zero, List.set_cons_succ]
      refine wpAnyH_ready (rs := [36]) (listed := hb13_l37) hb13_r37 (by simp) (AllReadyH.cons (o := { dst := some 145, op := Op.call { callee := Callee.value (Operand.func 20), args := #[Operand.tmp 144], argTypes := #[25] }, type := 31, pos := "law.go:48", after := #[{ on := 35, ground := Ground.data }, { on := 34, ground := Ground.chain }, { on := 31, ground := Ground.guard }], guard := some (31, true) }) hb13_g36 (fun K hK => ?_) AllReadyH.nil)
      rw [if_pos (by rfl)]
      go_simp
      (go_at_call 20; refine (has_any ⟨2, rq, 1, sq⟩ HKO.out _).mono ?_; rintro eb wb ⟨rfl, bb⟩; simp only [rhA]; have HQB := Lib.hid (HQA.out.below bb); have HB := Lib.hid (HA.out.below bb); clear bb)
      go_wp2_with fail
      refine hK.out _ _ (BQ.s HQB.out) (fun hHeld => ?_)
      clear hK K
      try simp only [Act.put, List.setIfInBounds_toArray, List.set_cons_zero, List.set_cons_succ]
      refine wpAnyH_ready (rs := [38]) (listed := hb13_l38) hb13_r38 (by simp) (AllReadyH.cons (o := { dst := some 147, op := Op.call { callee := Callee.value (Operand.func 26), args := #[Operand.tmp 145, Operand.tmp 146], argTypes := #[31, 22] }, type := 22, pos := "law.go:48", after := #[{ on := 36, ground := Ground.data }, { on := 37, ground := Ground.data }, { on := 36, ground := Ground.chain }, { on := 31, ground := Ground.guard }], guard := some (31, true) }) hb13_g38 (fun K hK => ?_) AllReadyH.nil)
      rw [if_pos (by rfl)]
      go_simp
      (go_at_call 26; refine (rwrite_any ⟨2, rq, 1, sq⟩ HKO.out _ [x0] _ (HWR.out _ HQB.out.old) HML.out).mono ?_; rintro ec wc ⟨pc, rfl, hc, bc⟩; have HC := Lib.hid hc.row; have HQC := Lib.hid (HQB.out.below bc); have HBC := Lib.hid (HB.out.below bc); clear hc bc)
      go_wp2_with fail
      refine hK.out _ _ (BQ.s HQC.out) (fun hHeld => ?_)
      clear hK K
      try simp only [Act.put, List.setIfInBounds_toArray, List.set_cons_zero, List.set_cons_succ]
      refine wpAnyH_ready (rs := [39]) (listed := hb13_l39) hb13_r39 (by simp) (AllReadyH.cons (o := { dst := some 148, op := Op.call { callee := Callee.value (Operand.func 22), args := #[Operand.tmp 143, Operand.tmp 147], argTypes := #[22, 22] }, type := 4, pos := "law.go:48", after := #[{ on := 34, ground := Ground.data }, { on := 38, ground := Ground.data }, { on := 38, ground := Ground.chain }, { on := 31, ground := Ground.guard }], guard := some (31, true) }) hb13_g39 (fun K hK => ?_) AllReadyH.nil)
      rw [if_pos (by rfl)]
      go_simp
      (go_at_call 22; refine (same_t _ _ (hdL ⟨2, rq, 1, sq⟩ ++ [x0]) _ HBC.out HC.out HHL.out).mono ?_; rintro ed wd ⟨rfl, nd, hwd⟩; have HQD : Hid (BQ w g gp gr ⟨2, rq, 1, sq⟩ ⟨Ht, Hq, Hr, Hs⟩ p q a x T A wd) := Lib.hid (by rw [hwd]; exact HQC.out.drewN nd); clear hwd)
      go_wp2_with fail
      refine hK.out _ _ (BQ.s HQD.out) (fun hHeld => ?_)
      clear hK K
      try simp only [Act.put, List.setIfInBounds_toArray, List.set_cons_zero, List.set_cons_succ]
      refine wpAnyH_take (i := 40) (oi := { dst := some 149, op := Op.pick (Operand.tmp 140) (Operand.tmp 148) (Operand.const (Value.bool false)), type := 4, pos := "law.go:48", after := #[{ on := 31, ground := Ground.data }, { on := 39, ground := Ground.data }], guard := none }) (v := ?_) (listed := hb13_l40) hb13_g40 hb13_nosel hb13_f40 hb13_r40 (fun _ _ _ h => h) (Or.inl ⟨by rfl, ?_⟩) (by assumption) ?_
      rotate_left
      focus (intro w hSw; (try dsimp only at hSw); go_simp; try (with_reducible rfl))
      try simp only [Act.put, List.setIfInBounds_toArray, List.set_cons_zero, List.set_cons_succ]
      refine wpAnyH_take (i := 41) (oi := { dst := some 8, op := Op.assign (Operand.tmp 149), type := 4, pos := "law.go:48", after := #[{ on := 40, ground := Ground.data }, { on := 39, ground := Ground.chain }, { on := 0, ground := Ground.phase }, { on := 1, ground := Ground.phase }, { on := 2, ground := Ground.phase }, { on := 3, ground := Ground.phase }, { on := 4, ground := Ground.phase }, { on := 5, ground := Ground.phase }, { on := 6, ground := Ground.phase }, { on := 7, ground := Ground.phase }, { on := 8, ground := Ground.phase }, { on := 9, ground := Ground.phase }, { on := 10, ground := Ground.phase }, { on := 11, ground := Ground.phase }, { on := 12, ground := Ground.phase }, { on := 13, ground := Ground.phase }, { on := 14, ground := Ground.phase }, { on := 15, ground := Ground.phase }, { on := 16, ground := Ground.phase }, { on := 17, ground := Ground.phase }, { on := 18, ground := Ground.phase }, { on := 19, ground := Ground.phase }, { on := 20, ground := Ground.phase }, { on := 21, ground := Ground.phase }, { on := 22, ground := Ground.phase }, { on := 23, ground := Ground.phase }, { on := 24, ground := Ground.phase }, { on := 25, ground := Ground.phase }, { on := 26, ground := Ground.phase }, { on := 27, ground := Ground.phase }, { on := 28, ground := Ground.phase }, { on := 29, ground := Ground.phase }, { on := 30, ground := Ground.phase }, { on := 31, ground := Ground.phase }, { on := 32, ground := Ground.phase }, { on := 33, ground := Ground.phase }, { on := 34, ground := Ground.phase }, { on := 35, ground := Ground.phase }, { on := 36, ground := Ground.phase }, { on := 37, ground := Ground.phase }, { on := 38, ground := Ground.phase }, { on := 39, ground := Ground.phase }, { on := 40, ground := Ground.phase }], guard := none }) (v := ?_) (listed := hb13_l41) hb13_g41 hb13_nosel hb13_f41 hb13_r41 (fun _ _ _ h => h) (Or.inl ⟨by rfl, ?_⟩) (by assumption) ?_
      rotate_left
      focus (intro w hSw; (try dsimp only at hSw); go_simp; try (with_reducible rfl))
      try simp only [Act.put, List.setIfInBounds_toArray, List.set_cons_zero, List.set_cons_succ]
      refine wpAnyH_done (listed := hb13_l42) hb13_end ?_ _
      go_wp2
      go_ret
      exact ⟨rfl, HQD.out.old⟩
  have hs' : senseB ⟨ty, rq, rs, sq⟩ M = false := by simpa using hs
  have HSN := Lib.hid hs'
  have hno : ¬ (ty = 2 ∧ (rs = 0 ∨ rs = 1) ∧ M.length = 1) := of_decide_eq_false hs'
  have r0 := HKO.out.rs0
  simp only at r0
  clear hs hs'
  by_cases h1 : ty = 2
  · subst h1
    by_cases h2 : rs < 2
    · have h3 : ¬ m = 1 := fun h => hno ⟨rfl, by omega, by rw [← HM.out]; exact h⟩
      have t3 : ((m : Int) == 1) = false := by simp; omega
      clear hno h3
      go_wp2_with fail
      refine (sense_no ⟨2, rq, rs, sq⟩ _ M W8 HSN.out (HWR.out _ HB0.out.old) HML.out).mono ?_
      rintro e9 W9 ⟨rfl, b9⟩
      have HB9 := Lib.hid (HB0.out.below b9)
      clear c0 c1 c2 c3 b9
      obtain ⟨c0, c1, c2, c3, _⟩ := HB9.out.s
      simp only at c0 c1 c2 c3
      go_upto_region 13 with fail
      have HQ0 := Lib.hid (HB9.out.drew)
      clear c0 c1 c2 c3
      change Code.wp _ (Code.region 13 hb13 true) _ _ _
      refine wp_region_held_drew (S := (fun W => W.cell? ⟨g, 0, none⟩ = some (.int .u8 2) ∧ W.cell? ⟨g, 1, none⟩ = some (.int .u8 rq) ∧ W.cell? ⟨g, 2, none⟩ = some (.int .u8 rs) ∧ W.cell? ⟨g, 3, none⟩ = some (.int .u16 sq) ∧ W.cell? ⟨gp, 0, none⟩ = some (.int .u8 Ht) ∧ W.cell? ⟨gp, 1, none⟩ = some (.int .u8 Hq) ∧ W.cell? ⟨gp, 2, none⟩ = some (.int .u8 Hr) ∧ W.cell? ⟨gp, 3, none⟩ = some (.int .u16 Hs) ∧ W.cell? ⟨gr, 0, none⟩ = some (.int .u8 Ht) ∧ W.cell? ⟨gr, 1, none⟩ = some (.int .u8 Hq) ∧ W.cell? ⟨gr, 2, none⟩ = some (.int .u8 Hr) ∧ W.cell? ⟨gr, 3, none⟩ = some (.int .i64 Hs))) (by kernel_rfl) (HQ0.out.s) (fun hHeld => ?_)
      change wpAnyH _ .any hb13 _ _ 42 hb13_l0 _ _
      refine wpAnyH_take (i := 0) (oi := { dst := some 109, op := Op.move (Operand.tmp 11), type := 26, pos := "law.go:48", after := #[], guard := none }) (v := ?_) (listed := hb13_l0) hb13_g0 hb13_nosel hb13_f0 hb13_r0 (fun _ _ _ h => h) (Or.inl ⟨by rfl, ?_⟩) (by assumption) ?_
      rotate_left
      focus (intro w hSw; (try dsimp only at hSw); go_simp; try (with_reducible rfl))
      try simp only [Act.put, List.setIfInBounds_toArray, List.set_cons_zero, List.set_cons_succ]
      refine wpAnyH_take (i := 1) (oi := { dst := some 110, op := Op.move (Operand.tmp 14), type := 3, pos := "law.go:48", after := #[], guard := none }) (v := ?_) (listed := hb13_l1) hb13_g1 hb13_nosel hb13_f1 hb13_r1 (fun _ _ _ h => h) (Or.inl ⟨by rfl, ?_⟩) (by assumption) ?_
      rotate_left
      focus (intro w hSw; (try dsimp only at hSw); go_simp; try (with_reducible rfl))
      try simp only [Act.put, List.setIfInBounds_toArray, List.set_cons_zero, List.set_cons_succ]
      refine wpAnyH_take (i := 2) (oi := { dst := some 111, op := Op.binOp BinOp.eql 3 (Operand.tmp 109) (Operand.tmp 110) 3, type := 4, pos := "law.go:48", after := #[{ on := 0, ground := Ground.data }, { on := 1, ground := Ground.data }], guard := none }) (v := ?_) (listed := hb13_l2) hb13_g2 hb13_nosel hb13_f2 hb13_r2 (fun _ _ _ h => h) (Or.inl ⟨by rfl, ?_⟩) (by assumption) ?_
      rotate_left
      focus (intro w hSw; (try dsimp only at hSw); go_simp; try (with_reducible rfl))
      try simp only [Act.put, List.setIfInBounds_toArray, List.set_cons_zero, List.set_cons_succ]
      refine wpAnyH_take (i := 3) (oi := { dst := some 112, op := Op.move (Operand.tmp 111), type := 4, pos := "law.go:48", after := #[{ on := 2, ground := Ground.data }], guard := none }) (v := ?_) (listed := hb13_l3) hb13_g3 hb13_nosel hb13_f3 hb13_r3 (fun _ _ _ h => h) (Or.inl ⟨by rfl, ?_⟩) (by assumption) ?_
      rotate_left
      focus (intro w hSw; (try dsimp only at hSw); go_simp; try (with_reducible rfl))
      try simp only [Act.put, List.setIfInBounds_toArray, List.set_cons_zero, List.set_cons_succ]
      refine wpAnyH_take (i := 4) (oi := { dst := some 113, op := Op.load 25 (Operand.tmp 9), type := 25, pos := "law.go:48", after := #[{ on := 3, ground := Ground.guard }], guard := some (3, true) }) (v := ?_) (listed := hb13_l4) hb13_g4 hb13_nosel hb13_f4 hb13_r4 (fun _ _ _ h => h) (Or.inl ⟨by rfl, ?_⟩) (by assumption) ?_
      rotate_left
      focus (intro w hSw; (try dsimp only at hSw); go_simp; try (with_reducible rfl))
      try simp only [Act.put, List.setIfInBounds_toArray, List.set_cons_zero, List.set_cons_succ]
      refine wpAnyH_take (i := 6) (oi := { dst := some 115, op := Op.load 31 (Operand.tmp 12), type := 31, pos := "law.go:48", after := #[{ on := 3, ground := Ground.guard }], guard := some (3, true) }) (v := ?_) (listed := hb13_l5) hb13_g6 hb13_nosel hb13_f5 hb13_r5 (fun _ _ _ h => h) (Or.inl ⟨by rfl, ?_⟩) (by assumption) ?_
      rotate_left
      focus (intro w hSw; (try dsimp only at hSw); go_simp; try (with_reducible rfl))
      try simp only [Act.put, List.setIfInBounds_toArray, List.set_cons_zero, List.set_cons_succ]
      refine wpAnyH_ready (rs := [5]) (listed := hb13_l6) hb13_r6 (by simp) (AllReadyH.cons (o := { dst := some 114, op := Op.call { callee := Callee.value (Operand.func 20), args := #[Operand.tmp 113], argTypes := #[25] }, type := 31, pos := "law.go:48", after := #[{ on := 4, ground := Ground.data }, { on := 3, ground := Ground.chain }, { on := 3, ground := Ground.guard }], guard := some (3, true) }) hb13_g5 (fun K hK => ?_) AllReadyH.nil)
      rw [if_pos (by rfl)]
      go_simp
      (go_at_call 20; refine (has_any ⟨Ht, Hq, Hr, Hs⟩ HKH.out _).mono ?_; rintro e5 w5 ⟨rfl, b5⟩; simp only [rhA]; have HQ5 := Lib.hid (HQ0.out.below b5); clear b5)
      go_wp2_with fail
      refine hK.out _ _ (BQ.s HQ5.out) (fun hHeld => ?_)
      clear hK K
      try simp only [Act.put, List.setIfInBounds_toArray, List.set_cons_zero, List.set_cons_succ]
      refine wpAnyH_take (i := 7) (oi := { dst := some 116, op := Op.binOp BinOp.eql 31 (Operand.tmp 114) (Operand.tmp 115) 31, type := 4, pos := "law.go:48", after := #[{ on := 5, ground := Ground.data }, { on := 6, ground := Ground.data }, { on := 3, ground := Ground.guard }], guard := some (3, true) }) (v := ?_) (listed := hb13_l7) hb13_g7 hb13_nosel hb13_f7 hb13_r7 (fun _ _ _ h => h) (Or.inl ⟨by rfl, ?_⟩) (by assumption) ?_
      rotate_left
      focus (intro w hSw; (try dsimp only at hSw); go_simp; try (with_reducible rfl))
      try simp only [Act.put, List.setIfInBounds_toArray, List.set_cons_zero, List.set_cons_succ]
      refine wpAnyH_take (i := 8) (oi := { dst := some 117, op := Op.pick (Operand.tmp 112) (Operand.tmp 116) (Operand.const (Value.bool false)), type := 4, pos := "law.go:48", after := #[{ on := 3, ground := Ground.data }, { on := 7, ground := Ground.data }], guard := none }) (v := ?_) (listed := hb13_l8) hb13_g8 hb13_nosel hb13_f8 hb13_r8 (fun _ _ _ h => h) (Or.inl ⟨by rfl, ?_⟩) (by assumption) ?_
      rotate_left
      focus (intro w hSw; (try dsimp only at hSw); go_simp; try (with_reducible rfl))
      try simp only [Act.put, List.setIfInBounds_toArray, List.set_cons_zero, List.set_cons_succ]
      refine wpAnyH_take (i := 9) (oi := { dst := some 118, op := Op.move (Operand.tmp 117), type := 4, pos := "law.go:48", after := #[{ on := 8, ground := Ground.data }, { on := 5, ground := Ground.chain }], guard := none }) (v := ?_) (listed := hb13_l9) hb13_g9 hb13_nosel hb13_f9 hb13_r9 (fun _ _ _ h => h) (Or.inl ⟨by rfl, ?_⟩) (by assumption) ?_
      rotate_left
      focus (intro w hSw; (try dsimp only at hSw); go_simp; try (with_reducible rfl))
      try simp only [Act.put, List.setIfInBounds_toArray, List.set_cons_zero, List.set_cons_succ]
      refine wpAnyH_take (i := 10) (oi := { dst := some 119, op := Op.move (Operand.tmp 10), type := 22, pos := "law.go:48", after := #[{ on := 9, ground := Ground.guard }], guard := some (9, true) }) (v := ?_) (listed := hb13_l10) hb13_g10 hb13_nosel hb13_f10 hb13_r10 (fun _ _ _ h => h) (Or.inl ⟨by rfl, ?_⟩) (by assumption) ?_
      rotate_left
      focus (intro w hSw; (try dsimp only at hSw); go_simp; try (with_reducible rfl))
      try simp only [Act.put, List.setIfInBounds_toArray, List.set_cons_zero, List.set_cons_succ]
      refine wpAnyH_take (i := 11) (oi := { dst := some 120, op := Op.move (Operand.tmp 13), type := 22, pos := "law.go:48", after := #[{ on := 9, ground := Ground.guard }], guard := some (9, true) }) (v := ?_) (listed := hb13_l11) hb13_g11 hb13_nosel hb13_f11 hb13_r11 (fun _ _ _ h => h) (Or.inl ⟨by rfl, ?_⟩) (by assumption) ?_
      rotate_left
      focus (intro w hSw; (try dsimp only at hSw); go_simp; try (with_reducible rfl))
      try simp only [Act.put, List.setIfInBounds_toArray, List.set_cons_zero, List.set_cons_succ]
      refine wpAnyH_ready (rs := [12]) (listed := hb13_l12) hb13_r12 (by simp) (AllReadyH.cons (o := { dst := some 121, op := Op.call { callee := Callee.value (Operand.func 22), args := #[Operand.tmp 119, Operand.tmp 120], argTypes := #[22, 22] }, type := 4, pos := "law.go:48", after := #[{ on := 10, ground := Ground.data }, { on := 11, ground := Ground.data }, { on := 9, ground := Ground.chain }, { on := 9, ground := Ground.guard }], guard := some (9, true) }) hb13_g12 (fun K hK => ?_) AllReadyH.nil)
      rw [if_pos (by rfl)]
      go_simp
      (go_at_call 22; refine (same_t _ _ T _ HQ5.out.rp HQ5.out.rq HTL.out).mono ?_; rintro e6 w6 ⟨rfl, n6, hw6⟩; have HQ6 : Hid (BQ w g gp gr ⟨2, rq, rs, sq⟩ ⟨Ht, Hq, Hr, Hs⟩ p q a x T A w6) := Lib.hid (by rw [hw6]; exact HQ5.out.drewN n6); clear hw6)
      go_wp2_with fail
      refine hK.out _ _ (BQ.s HQ6.out) (fun hHeld => ?_)
      clear hK K
      try simp only [Act.put, List.setIfInBounds_toArray, List.set_cons_zero, List.set_cons_succ]
      refine wpAnyH_take (i := 13) (oi := { dst := some 122, op := Op.pick (Operand.tmp 118) (Operand.tmp 121) (Operand.const (Value.bool false)), type := 4, pos := "law.go:48", after := #[{ on := 9, ground := Ground.data }, { on := 12, ground := Ground.data }], guard := none }) (v := ?_) (listed := hb13_l13) hb13_g13 hb13_nosel hb13_f13 hb13_r13 (fun _ _ _ h => h) (Or.inl ⟨by rfl, ?_⟩) (by assumption) ?_
      rotate_left
      focus (intro w hSw; (try dsimp only at hSw); go_simp; try (with_reducible rfl))
      try simp only [Act.put, List.setIfInBounds_toArray, List.set_cons_zero, List.set_cons_succ]
      refine wpAnyH_take (i := 14) (oi := { dst := some 123, op := Op.move (Operand.tmp 122), type := 4, pos := "law.go:48", after := #[{ on := 13, ground := Ground.data }, { on := 12, ground := Ground.chain }], guard := none }) (v := ?_) (listed := hb13_l14) hb13_g14 hb13_nosel hb13_f14 hb13_r14 (fun _ _ _ h => h) (Or.inl ⟨by rfl, ?_⟩) (by assumption) ?_
      rotate_left
      focus (intro w hSw; (try dsimp only at hSw); go_simp; try (with_reducible rfl))
      try simp only [Act.put, List.setIfInBounds_toArray, List.set_cons_zero, List.set_cons_succ]
      refine wpAnyH_take (i := 15) (oi := { dst := some 124, op := Op.move (Operand.tmp 16), type := 4, pos := "law.go:48", after := #[{ on := 14, ground := Ground.guard }], guard := some (14, true) }) (v := ?_) (listed := hb13_l15) hb13_g15 hb13_nosel hb13_f15 hb13_r15 (fun _ _ _ h => h) (Or.inl ⟨by rfl, ?_⟩) (by assumption) ?_
      rotate_left
      focus (intro w hSw; (try dsimp only at hSw); go_simp; try (with_reducible rfl))
      try simp only [Act.put, List.setIfInBounds_toArray, List.set_cons_zero, List.set_cons_succ]
      refine wpAnyH_take (i := 16) (oi := { dst := some 125, op := Op.move (Operand.tmp 18), type := 4, pos := "law.go:48", after := #[{ on := 14, ground := Ground.guard }], guard := some (14, true) }) (v := ?_) (listed := hb13_l16) hb13_g16 hb13_nosel hb13_f16 hb13_r16 (fun _ _ _ h => h) (Or.inl ⟨by rfl, ?_⟩) (by assumption) ?_
      rotate_left
      focus (intro w hSw; (try dsimp only at hSw); go_simp; try (with_reducible rfl))
      try simp only [Act.put, List.setIfInBounds_toArray, List.set_cons_zero, List.set_cons_succ]
      refine wpAnyH_take (i := 17) (oi := { dst := some 126, op := Op.binOp BinOp.eql 4 (Operand.tmp 124) (Operand.tmp 125) 4, type := 4, pos := "law.go:48", after := #[{ on := 15, ground := Ground.data }, { on := 16, ground := Ground.data }, { on := 14, ground := Ground.guard }], guard := some (14, true) }) (v := ?_) (listed := hb13_l17) hb13_g17 hb13_nosel hb13_f17 hb13_r17 (fun _ _ _ h => h) (Or.inl ⟨by rfl, ?_⟩) (by assumption) ?_
      rotate_left
      focus (intro w hSw; (try dsimp only at hSw); go_simp; try (with_reducible rfl))
      try simp only [Act.put, List.setIfInBounds_toArray, List.set_cons_zero, List.set_cons_succ]
      refine wpAnyH_take (i := 18) (oi := { dst := some 127, op := Op.pick (Operand.tmp 123) (Operand.tmp 126) (Operand.const (Value.bool false)), type := 4, pos := "law.go:48", after := #[{ on := 14, ground := Ground.data }, { on := 17, ground := Ground.data }], guard := none }) (v := ?_) (listed := hb13_l18) hb13_g18 hb13_nosel hb13_f18 hb13_r18 (fun _ _ _ h => h) (Or.inl ⟨by rfl, ?_⟩) (by assumption) ?_
      rotate_left
      focus (intro w hSw; (try dsimp only at hSw); go_simp; try (with_reducible rfl))
      try simp only [Act.put, List.setIfInBounds_toArray, List.set_cons_zero, List.set_cons_succ]
      refine wpAnyH_take (i := 19) (oi := { dst := some 128, op := Op.move (Operand.tmp 127), type := 4, pos := "law.go:48", after := #[{ on := 18, ground := Ground.data }, { on := 14, ground := Ground.chain }], guard := none }) (v := ?_) (listed := hb13_l19) hb13_g19 hb13_nosel hb13_f19 hb13_r19 (fun _ _ _ h => h) (Or.inl ⟨by rfl, ?_⟩) (by assumption) ?_
      rotate_left
      focus (intro w hSw; (try dsimp only at hSw); go_simp; try (with_reducible rfl))
      try simp only [Act.put, List.setIfInBounds_toArray, List.set_cons_zero, List.set_cons_succ]
      refine wpAnyH_take (i := 20) (oi := { dst := some 129, op := Op.move (Operand.tmp 15), type := 22, pos := "law.go:48", after := #[{ on := 19, ground := Ground.guard }], guard := some (19, true) }) (v := ?_) (listed := hb13_l20) hb13_g20 hb13_nosel hb13_f20 hb13_r20 (fun _ _ _ h => h) (Or.inl ⟨by rfl, ?_⟩) (by assumption) ?_
      rotate_left
      focus (intro w hSw; (try dsimp only at hSw); go_simp; try (with_reducible rfl))
      try simp only [Act.put, List.setIfInBounds_toArray, List.set_cons_zero, List.set_cons_succ]
      refine wpAnyH_take (i := 21) (oi := { dst := some 130, op := Op.move (Operand.tmp 17), type := 22, pos := "law.go:48", after := #[{ on := 19, ground := Ground.guard }], guard := some (19, true) }) (v := ?_) (listed := hb13_l21) hb13_g21 hb13_nosel hb13_f21 hb13_r21 (fun _ _ _ h => h) (Or.inl ⟨by rfl, ?_⟩) (by assumption) ?_
      rotate_left
      focus (intro w hSw; (try dsimp only at hSw); go_simp; try (with_reducible rfl))
      try simp only [Act.put, List.setIfInBounds_toArray, List.set_cons_zero, List.set_cons_succ]
      refine wpAnyH_ready (rs := [22]) (listed := hb13_l22) hb13_r22 (by simp) (AllReadyH.cons (o := { dst := some 131, op := Op.call { callee := Callee.value (Operand.func 22), args := #[Operand.tmp 129, Operand.tmp 130], argTypes := #[22, 22] }, type := 4, pos := "law.go:48", after := #[{ on := 20, ground := Ground.data }, { on := 21, ground := Ground.data }, { on := 19, ground := Ground.chain }, { on := 19, ground := Ground.guard }], guard := some (19, true) }) hb13_g22 (fun K hK => ?_) AllReadyH.nil)
      rw [if_pos (by rfl)]
      go_simp
      (go_at_call 22; refine (same_t _ _ A _ HQ6.out.ra HQ6.out.rx HAL.out).mono ?_; rintro e7 w7 ⟨rfl, n7, hw7⟩; have HQ7 : Hid (BQ w g gp gr ⟨2, rq, rs, sq⟩ ⟨Ht, Hq, Hr, Hs⟩ p q a x T A w7) := Lib.hid (by rw [hw7]; exact HQ6.out.drewN n7); clear hw7)
      go_wp2_with fail
      refine hK.out _ _ (BQ.s HQ7.out) (fun hHeld => ?_)
      clear hK K
      try simp only [Act.put, List.setIfInBounds_toArray, List.set_cons_zero, List.set_cons_succ]
      refine wpAnyH_take (i := 23) (oi := { dst := some 132, op := Op.pick (Operand.tmp 128) (Operand.tmp 131) (Operand.const (Value.bool false)), type := 4, pos := "law.go:48", after := #[{ on := 19, ground := Ground.data }, { on := 22, ground := Ground.data }], guard := none }) (v := ?_) (listed := hb13_l23) hb13_g23 hb13_nosel hb13_f23 hb13_r23 (fun _ _ _ h => h) (Or.inl ⟨by rfl, ?_⟩) (by assumption) ?_
      rotate_left
      focus (intro w hSw; (try dsimp only at hSw); go_simp; try (with_reducible rfl))
      try simp only [Act.put, List.setIfInBounds_toArray, List.set_cons_zero, List.set_cons_succ]
      refine wpAnyH_take (i := 24) (oi := { dst := some 133, op := Op.move (Operand.tmp 132), type := 4, pos := "law.go:48", after := #[{ on := 23, ground := Ground.data }, { on := 22, ground := Ground.chain }], guard := none }) (v := ?_) (listed := hb13_l24) hb13_g24 hb13_nosel hb13_f24 hb13_r24 (fun _ _ _ h => h) (Or.inl ⟨by rfl, ?_⟩) (by assumption) ?_
      rotate_left
      focus (intro w hSw; (try dsimp only at hSw); go_simp; try (with_reducible rfl))
      try simp only [Act.put, List.setIfInBounds_toArray, List.set_cons_zero, List.set_cons_succ]
      refine wpAnyH_take (i := 25) (oi := { dst := some 134, op := Op.move (Operand.tmp 2), type := 26, pos := "law.go:48", after := #[{ on := 24, ground := Ground.guard }], guard := some (24, true) }) (v := ?_) (listed := hb13_l25) hb13_g25 hb13_nosel hb13_f25 hb13_r25 (fun _ _ _ h => h) (Or.inl ⟨by rfl, ?_⟩) (by assumption) ?_
      rotate_left
      focus (intro w hSw; (try dsimp only at hSw); go_simp; try (with_reducible rfl))
      try simp only [Act.put, List.setIfInBounds_toArray, List.set_cons_zero, List.set_cons_succ]
      refine wpAnyH_take (i := 27) (oi := { dst := some 136, op := Op.move (Operand.tmp 2), type := 26, pos := "law.go:48", after := #[{ on := 24, ground := Ground.guard }], guard := some (24, true) }) (v := ?_) (listed := hb13_l26) hb13_g27 hb13_nosel hb13_f26 hb13_r26 (fun _ _ _ h => h) (Or.inl ⟨by rfl, ?_⟩) (by assumption) ?_
      rotate_left
      focus (intro w hSw; (try dsimp only at hSw); go_simp; try (with_reducible rfl))
      try simp only [Act.put, List.setIfInBounds_toArray, List.set_cons_zero, List.set_cons_succ]
      refine wpAnyH_ready (rs := [26]) (listed := hb13_l27) hb13_r27 (by simp) (AllReadyH.cons (o := { dst := some 135, op := Op.call { callee := Callee.value (Operand.func 23), args := #[Operand.tmp 134], argTypes := #[26] }, type := 5, pos := "law.go:48", after := #[{ on := 25, ground := Ground.data }, { on := 24, ground := Ground.chain }, { on := 24, ground := Ground.guard }], guard := some (24, true) }) hb13_g26 (fun K hK => ?_) AllReadyH.nil)
      rw [if_pos (by rfl)]
      go_simp
      (go_at_call 23; refine (hcode_any e _).mono ?_; rintro e8 w8 ⟨rfl, rfl⟩)
      go_wp2_with fail
      refine hK.out _ _ (BQ.s HQ7.out) (fun hHeld => ?_)
      clear hK K
      try simp only [Act.put, List.setIfInBounds_toArray, List.set_cons_zero, List.set_cons_succ]
      refine wpAnyH_ready (rs := [28]) (listed := hb13_l28) hb13_r28 (by simp) (AllReadyH.cons (o := { dst := some 137, op := Op.call { callee := Callee.value (Operand.func 24), args := #[Operand.tmp 136], argTypes := #[3] }, type := 5, pos := "law.go:48", after := #[{ on := 27, ground := Ground.data }, { on := 26, ground := Ground.chain }, { on := 24, ground := Ground.guard }], guard := some (24, true) }) hb13_g28 (fun K hK => ?_) AllReadyH.nil)
      rw [if_pos (by rfl)]
      go_simp
      (go_at_call 24; refine (rcode_any e _).mono ?_; rintro e9 w9 ⟨rfl, rfl⟩)
      go_wp2_with fail
      refine hK.out _ _ (BQ.s HQ7.out) (fun hHeld => ?_)
      clear hK K
      try simp only [Act.put, List.setIfInBounds_toArray, List.set_cons_zero, List.set_cons_succ]
      refine wpAnyH_take (i := 29) (oi := { dst := some 138, op := Op.binOp BinOp.eql 5 (Operand.tmp 135) (Operand.tmp 137) 5, type := 4, pos := "law.go:48", after := #[{ on := 26, ground := Ground.data }, { on := 28, ground := Ground.data }, { on := 24, ground := Ground.guard }], guard := some (24, true) }) (v := ?_) (listed := hb13_l29) hb13_g29 hb13_nosel hb13_f29 hb13_r29 (fun _ _ _ h => h) (Or.inl ⟨by rfl, ?_⟩) (by assumption) ?_
      rotate_left
      focus (intro w hSw; (try dsimp only at hSw); go_simp; try (with_reducible rfl))
      try simp only [Act.put, List.setIfInBounds_toArray, List.set_cons_zero, List.set_cons_succ]
      refine wpAnyH_take (i := 30) (oi := { dst := some 139, op := Op.pick (Operand.tmp 133) (Operand.tmp 138) (Operand.const (Value.bool false)), type := 4, pos := "law.go:48", after := #[{ on := 24, ground := Ground.data }, { on := 29, ground := Ground.data }], guard := none }) (v := ?_) (listed := hb13_l30) hb13_g30 hb13_nosel hb13_f30 hb13_r30 (fun _ _ _ h => h) (Or.inl ⟨by rfl, ?_⟩) (by assumption) ?_
      rotate_left
      focus (intro w hSw; (try dsimp only at hSw); go_simp; try (with_reducible rfl))
      try simp only [Act.put, List.setIfInBounds_toArray, List.set_cons_zero, List.set_cons_succ]
      refine wpAnyH_take (i := 31) (oi := { dst := some 140, op := Op.move (Operand.tmp 139), type := 4, pos := "law.go:48", after := #[{ on := 30, ground := Ground.data }, { on := 28, ground := Ground.chain }], guard := none }) (v := ?_) (listed := hb13_l31) hb13_g31 hb13_nosel hb13_f31 hb13_r31 (fun _ _ _ h => h) (Or.inl ⟨by rfl, ?_⟩) (by assumption) ?_
      rotate_left
      focus (intro w hSw; (try dsimp only at hSw); go_simp; try (with_reducible rfl))
      try simp only [Act.put, List.setIfInBounds_toArray, List.set_cons_zero, List.set_cons_succ]
      refine wpAnyH_take (i := 32) (oi := { dst := some 141, op := Op.load 25 (Operand.tmp 5), type := 25, pos := "law.go:48", after := #[{ on := 31, ground := Ground.guard }], guard := some (31, true) }) (v := ?_) (listed := hb13_l32) hb13_g32 hb13_nosel hb13_f32 hb13_r32 (fun _ _ _ h => h) (Or.inl ⟨by rfl, ?_⟩) (by assumption) ?_
      rotate_left
      focus (intro w hSw; (try dsimp only at hSw); go_simp; try (with_reducible rfl))
      try simp only [Act.put, List.setIfInBounds_toArray, List.set_cons_zero, List.set_cons_succ]
      refine wpAnyH_take (i := 33) (oi := { dst := some 142, op := Op.move (Operand.tmp 3), type := 22, pos := "law.go:48", after := #[{ on := 31, ground := Ground.guard }], guard := some (31, true) }) (v := ?_) (listed := hb13_l33) hb13_g33 hb13_nosel hb13_f33 hb13_r33 (fun _ _ _ h => h) (Or.inl ⟨by rfl, ?_⟩) (by assumption) ?_
      rotate_left
      focus (intro w hSw; (try dsimp only at hSw); go_simp; try (with_reducible rfl))
      try simp only [Act.put, List.setIfInBounds_toArray, List.set_cons_zero, List.set_cons_succ]
      refine wpAnyH_take (i := 35) (oi := { dst := some 144, op := Op.load 25 (Operand.tmp 5), type := 25, pos := "law.go:48", after := #[{ on := 31, ground := Ground.guard }], guard := some (31, true) }) (v := ?_) (listed := hb13_l34) hb13_g35 hb13_nosel hb13_f34 hb13_r34 (fun _ _ _ h => h) (Or.inl ⟨by rfl, ?_⟩) (by assumption) ?_
      rotate_left
      focus (intro w hSw; (try dsimp only at hSw); go_simp; try (with_reducible rfl))
      try simp only [Act.put, List.setIfInBounds_toArray, List.set_cons_zero, List.set_cons_succ]
      refine wpAnyH_take (i := 37) (oi := { dst := some 146, op := Op.move (Operand.tmp 3), type := 22, pos := "law.go:48", after := #[{ on := 31, ground := Ground.guard }], guard := some (31, true) }) (v := ?_) (listed := hb13_l35) hb13_g37 hb13_nosel hb13_f35 hb13_r35 (fun _ _ _ h => h) (Or.inl ⟨by rfl, ?_⟩) (by assumption) ?_
      rotate_left
      focus (intro w hSw; (try dsimp only at hSw); go_simp; try (with_reducible rfl))
      try simp only [Act.put, List.setIfInBounds_toArray, List.set_cons_zero, List.set_cons_succ]
      refine wpAnyH_ready (rs := [34]) (listed := hb13_l36) hb13_r36 (by simp) (AllReadyH.cons (o := { dst := some 143, op := Op.call { callee := Callee.value (Operand.func 25), args := #[Operand.tmp 141, Operand.tmp 142], argTypes := #[25, 22] }, type := 22, pos := "law.go:48", after := #[{ on := 32, ground := Ground.data }, { on := 33, ground := Ground.data }, { on := 31, ground := Ground.chain }, { on := 31, ground := Ground.guard }], guard := some (31, true) }) hb13_g34 (fun K hK => ?_) AllReadyH.nil)
      rw [if_pos (by rfl)]
      go_simp
      (go_at_call 25; refine (hwrite_any ⟨2, rq, rs, sq⟩ HKO.out _ M _ (HWR.out _ HQ7.out.old) (cut_nil HCM.out) HML.out).mono ?_; rintro ea wa ⟨pa, rfl, ha, ba⟩; have HA := Lib.hid ha.row; have HQA := Lib.hid (HQ7.out.below ba); clear ha ba)
      go_wp2_with fail
      refine hK.out _ _ (BQ.s HQA.out) (fun hHeld => ?_)
      clear hK K
      try simp only [Act.put, List.setIfInBounds_toArray, List.set_cons_zero, List.set_cons_succ]
      refine wpAnyH_ready (rs := [36]) (listed := hb13_l37) hb13_r37 (by simp) (AllReadyH.cons (o := { dst := some 145, op := Op.call { callee := Callee.value (Operand.func 20), args := #[Operand.tmp 144], argTypes := #[25] }, type := 31, pos := "law.go:48", after := #[{ on := 35, ground := Ground.data }, { on := 34, ground := Ground.chain }, { on := 31, ground := Ground.guard }], guard := some (31, true) }) hb13_g36 (fun K hK => ?_) AllReadyH.nil)
      rw [if_pos (by rfl)]
      go_simp
      (go_at_call 20; refine (has_any ⟨2, rq, rs, sq⟩ HKO.out _).mono ?_; rintro eb wb ⟨rfl, bb⟩; simp only [rhA]; have HQB := Lib.hid (HQA.out.below bb); have HB := Lib.hid (HA.out.below bb); clear bb)
      go_wp2_with fail
      refine hK.out _ _ (BQ.s HQB.out) (fun hHeld => ?_)
      clear hK K
      try simp only [Act.put, List.setIfInBounds_toArray, List.set_cons_zero, List.set_cons_succ]
      refine wpAnyH_ready (rs := [38]) (listed := hb13_l38) hb13_r38 (by simp) (AllReadyH.cons (o := { dst := some 147, op := Op.call { callee := Callee.value (Operand.func 26), args := #[Operand.tmp 145, Operand.tmp 146], argTypes := #[31, 22] }, type := 22, pos := "law.go:48", after := #[{ on := 36, ground := Ground.data }, { on := 37, ground := Ground.data }, { on := 36, ground := Ground.chain }, { on := 31, ground := Ground.guard }], guard := some (31, true) }) hb13_g38 (fun K hK => ?_) AllReadyH.nil)
      rw [if_pos (by rfl)]
      go_simp
      (go_at_call 26; refine (rwrite_any ⟨2, rq, rs, sq⟩ HKO.out _ M _ (HWR.out _ HQB.out.old) HML.out).mono ?_; rintro ec wc ⟨pc, rfl, hc, bc⟩; have HC := Lib.hid hc.row; have HQC := Lib.hid (HQB.out.below bc); have HBC := Lib.hid (HB.out.below bc); clear hc bc)
      go_wp2_with fail
      refine hK.out _ _ (BQ.s HQC.out) (fun hHeld => ?_)
      clear hK K
      try simp only [Act.put, List.setIfInBounds_toArray, List.set_cons_zero, List.set_cons_succ]
      refine wpAnyH_ready (rs := [39]) (listed := hb13_l39) hb13_r39 (by simp) (AllReadyH.cons (o := { dst := some 148, op := Op.call { callee := Callee.value (Operand.func 22), args := #[Operand.tmp 143, Operand.tmp 147], argTypes := #[22, 22] }, type := 4, pos := "law.go:48", after := #[{ on := 34, ground := Ground.data }, { on := 38, ground := Ground.data }, { on := 38, ground := Ground.chain }, { on := 31, ground := Ground.guard }], guard := some (31, true) }) hb13_g39 (fun K hK => ?_) AllReadyH.nil)
      rw [if_pos (by rfl)]
      go_simp
      (go_at_call 22; refine (same_t _ _ (hdL ⟨2, rq, rs, sq⟩ ++ M) _ HBC.out HC.out HHL.out).mono ?_; rintro ed wd ⟨rfl, nd, hwd⟩; have HQD : Hid (BQ w g gp gr ⟨2, rq, rs, sq⟩ ⟨Ht, Hq, Hr, Hs⟩ p q a x T A wd) := Lib.hid (by rw [hwd]; exact HQC.out.drewN nd); clear hwd)
      go_wp2_with fail
      refine hK.out _ _ (BQ.s HQD.out) (fun hHeld => ?_)
      clear hK K
      try simp only [Act.put, List.setIfInBounds_toArray, List.set_cons_zero, List.set_cons_succ]
      refine wpAnyH_take (i := 40) (oi := { dst := some 149, op := Op.pick (Operand.tmp 140) (Operand.tmp 148) (Operand.const (Value.bool false)), type := 4, pos := "law.go:48", after := #[{ on := 31, ground := Ground.data }, { on := 39, ground := Ground.data }], guard := none }) (v := ?_) (listed := hb13_l40) hb13_g40 hb13_nosel hb13_f40 hb13_r40 (fun _ _ _ h => h) (Or.inl ⟨by rfl, ?_⟩) (by assumption) ?_
      rotate_left
      focus (intro w hSw; (try dsimp only at hSw); go_simp; try (with_reducible rfl))
      try simp only [Act.put, List.setIfInBounds_toArray, List.set_cons_zero, List.set_cons_succ]
      refine wpAnyH_take (i := 41) (oi := { dst := some 8, op := Op.assign (Operand.tmp 149), type := 4, pos := "law.go:48", after := #[{ on := 40, ground := Ground.data }, { on := 39, ground := Ground.chain }, { on := 0, ground := Ground.phase }, { on := 1, ground := Ground.phase }, { on := 2, ground := Ground.phase }, { on := 3, ground := Ground.phase }, { on := 4, ground := Ground.phase }, { on := 5, ground := Ground.phase }, { on := 6, ground := Ground.phase }, { on := 7, ground := Ground.phase }, { on := 8, ground := Ground.phase }, { on := 9, ground := Ground.phase }, { on := 10, ground := Ground.phase }, { on := 11, ground := Ground.phase }, { on := 12, ground := Ground.phase }, { on := 13, ground := Ground.phase }, { on := 14, ground := Ground.phase }, { on := 15, ground := Ground.phase }, { on := 16, ground := Ground.phase }, { on := 17, ground := Ground.phase }, { on := 18, ground := Ground.phase }, { on := 19, ground := Ground.phase }, { on := 20, ground := Ground.phase }, { on := 21, ground := Ground.phase }, { on := 22, ground := Ground.phase }, { on := 23, ground := Ground.phase }, { on := 24, ground := Ground.phase }, { on := 25, ground := Ground.phase }, { on := 26, ground := Ground.phase }, { on := 27, ground := Ground.phase }, { on := 28, ground := Ground.phase }, { on := 29, ground := Ground.phase }, { on := 30, ground := Ground.phase }, { on := 31, ground := Ground.phase }, { on := 32, ground := Ground.phase }, { on := 33, ground := Ground.phase }, { on := 34, ground := Ground.phase }, { on := 35, ground := Ground.phase }, { on := 36, ground := Ground.phase }, { on := 37, ground := Ground.phase }, { on := 38, ground := Ground.phase }, { on := 39, ground := Ground.phase }, { on := 40, ground := Ground.phase }], guard := none }) (v := ?_) (listed := hb13_l41) hb13_g41 hb13_nosel hb13_f41 hb13_r41 (fun _ _ _ h => h) (Or.inl ⟨by rfl, ?_⟩) (by assumption) ?_
      rotate_left
      focus (intro w hSw; (try dsimp only at hSw); go_simp; try (with_reducible rfl))
      try simp only [Act.put, List.setIfInBounds_toArray, List.set_cons_zero, List.set_cons_succ]
      refine wpAnyH_done (listed := hb13_l42) hb13_end ?_ _
      go_wp2
      go_ret
      exact ⟨rfl, HQD.out.old⟩
    · have t3 : ¬ rs < 2 := h2
      have t4 : (2 : Int) ≤ rs := by omega
      clear hno
      go_wp2_with fail
      refine (sense_no ⟨2, rq, rs, sq⟩ _ M W8 HSN.out (HWR.out _ HB0.out.old) HML.out).mono ?_
      rintro e9 W9 ⟨rfl, b9⟩
      have HB9 := Lib.hid (HB0.out.below b9)
      clear c0 c1 c2 c3 b9
      obtain ⟨c0, c1, c2, c3, _⟩ := HB9.out.s
      simp only at c0 c1 c2 c3
      go_upto_region 13 with fail
      have HQ0 := Lib.hid (HB9.out.drew)
      clear c0 c1 c2 c3
      change Code.wp _ (Code.region 13 hb13 true) _ _ _
      refine wp_region_held_drew (S := (fun W => W.cell? ⟨g, 0, none⟩ = some (.int .u8 2) ∧ W.cell? ⟨g, 1, none⟩ = some (.int .u8 rq) ∧ W.cell? ⟨g, 2, none⟩ = some (.int .u8 rs) ∧ W.cell? ⟨g, 3, none⟩ = some (.int .u16 sq) ∧ W.cell? ⟨gp, 0, none⟩ = some (.int .u8 Ht) ∧ W.cell? ⟨gp, 1, none⟩ = some (.int .u8 Hq) ∧ W.cell? ⟨gp, 2, none⟩ = some (.int .u8 Hr) ∧ W.cell? ⟨gp, 3, none⟩ = some (.int .u16 Hs) ∧ W.cell? ⟨gr, 0, none⟩ = some (.int .u8 Ht) ∧ W.cell? ⟨gr, 1, none⟩ = some (.int .u8 Hq) ∧ W.cell? ⟨gr, 2, none⟩ = some (.int .u8 Hr) ∧ W.cell? ⟨gr, 3, none⟩ = some (.int .i64 Hs))) (by kernel_rfl) (HQ0.out.s) (fun hHeld => ?_)
      change wpAnyH _ .any hb13 _ _ 42 hb13_l0 _ _
      refine wpAnyH_take (i := 0) (oi := { dst := some 109, op := Op.move (Operand.tmp 11), type := 26, pos := "law.go:48", after := #[], guard := none }) (v := ?_) (listed := hb13_l0) hb13_g0 hb13_nosel hb13_f0 hb13_r0 (fun _ _ _ h => h) (Or.inl ⟨by rfl, ?_⟩) (by assumption) ?_
      rotate_left
      focus (intro w hSw; (try dsimp only at hSw); go_simp; try (with_reducible rfl))
      try simp only [Act.put, List.setIfInBounds_toArray, List.set_cons_zero, List.set_cons_succ]
      refine wpAnyH_take (i := 1) (oi := { dst := some 110, op := Op.move (Operand.tmp 14), type := 3, pos := "law.go:48", after := #[], guard := none }) (v := ?_) (listed := hb13_l1) hb13_g1 hb13_nosel hb13_f1 hb13_r1 (fun _ _ _ h => h) (Or.inl ⟨by rfl, ?_⟩) (by assumption) ?_
      rotate_left
      focus (intro w hSw; (try dsimp only at hSw); go_simp; try (with_reducible rfl))
      try simp only [Act.put, List.setIfInBounds_toArray, List.set_cons_zero, List.set_cons_succ]
      refine wpAnyH_take (i := 2) (oi := { dst := some 111, op := Op.binOp BinOp.eql 3 (Operand.tmp 109) (Operand.tmp 110) 3, type := 4, pos := "law.go:48", after := #[{ on := 0, ground := Ground.data }, { on := 1, ground := Ground.data }], guard := none }) (v := ?_) (listed := hb13_l2) hb13_g2 hb13_nosel hb13_f2 hb13_r2 (fun _ _ _ h => h) (Or.inl ⟨by rfl, ?_⟩) (by assumption) ?_
      rotate_left
      focus (intro w hSw; (try dsimp only at hSw); go_simp; try (with_reducible rfl))
      try simp only [Act.put, List.setIfInBounds_toArray, List.set_cons_zero, List.set_cons_succ]
      refine wpAnyH_take (i := 3) (oi := { dst := some 112, op := Op.move (Operand.tmp 111), type := 4, pos := "law.go:48", after := #[{ on := 2, ground := Ground.data }], guard := none }) (v := ?_) (listed := hb13_l3) hb13_g3 hb13_nosel hb13_f3 hb13_r3 (fun _ _ _ h => h) (Or.inl ⟨by rfl, ?_⟩) (by assumption) ?_
      rotate_left
      focus (intro w hSw; (try dsimp only at hSw); go_simp; try (with_reducible rfl))
      try simp only [Act.put, List.setIfInBounds_toArray, List.set_cons_zero, List.set_cons_succ]
      refine wpAnyH_take (i := 4) (oi := { dst := some 113, op := Op.load 25 (Operand.tmp 9), type := 25, pos := "law.go:48", after := #[{ on := 3, ground := Ground.guard }], guard := some (3, true) }) (v := ?_) (listed := hb13_l4) hb13_g4 hb13_nosel hb13_f4 hb13_r4 (fun _ _ _ h => h) (Or.inl ⟨by rfl, ?_⟩) (by assumption) ?_
      rotate_left
      focus (intro w hSw; (try dsimp only at hSw); go_simp; try (with_reducible rfl))
      try simp only [Act.put, List.setIfInBounds_toArray, List.set_cons_zero, List.set_cons_succ]
      refine wpAnyH_take (i := 6) (oi := { dst := some 115, op := Op.load 31 (Operand.tmp 12), type := 31, pos := "law.go:48", after := #[{ on := 3, ground := Ground.guard }], guard := some (3, true) }) (v := ?_) (listed := hb13_l5) hb13_g6 hb13_nosel hb13_f5 hb13_r5 (fun _ _ _ h => h) (Or.inl ⟨by rfl, ?_⟩) (by assumption) ?_
      rotate_left
      focus (intro w hSw; (try dsimp only at hSw); go_simp; try (with_reducible rfl))
      try simp only [Act.put, List.setIfInBounds_toArray, List.set_cons_zero, List.set_cons_succ]
      refine wpAnyH_ready (rs := [5]) (listed := hb13_l6) hb13_r6 (by simp) (AllReadyH.cons (o := { dst := some 114, op := Op.call { callee := Callee.value (Operand.func 20), args := #[Operand.tmp 113], argTypes := #[25] }, type := 31, pos := "law.go:48", after := #[{ on := 4, ground := Ground.data }, { on := 3, ground := Ground.chain }, { on := 3, ground := Ground.guard }], guard := some (3, true) }) hb13_g5 (fun K hK => ?_) AllReadyH.nil)
      rw [if_pos (by rfl)]
      go_simp
      (go_at_call 20; refine (has_any ⟨Ht, Hq, Hr, Hs⟩ HKH.out _).mono ?_; rintro e5 w5 ⟨rfl, b5⟩; simp only [rhA]; have HQ5 := Lib.hid (HQ0.out.below b5); clear b5)
      go_wp2_with fail
      refine hK.out _ _ (BQ.s HQ5.out) (fun hHeld => ?_)
      clear hK K
      try simp only [Act.put, List.setIfInBounds_toArray, List.set_cons_zero, List.set_cons_succ]
      refine wpAnyH_take (i := 7) (oi := { dst := some 116, op := Op.binOp BinOp.eql 31 (Operand.tmp 114) (Operand.tmp 115) 31, type := 4, pos := "law.go:48", after := #[{ on := 5, ground := Ground.data }, { on := 6, ground := Ground.data }, { on := 3, ground := Ground.guard }], guard := some (3, true) }) (v := ?_) (listed := hb13_l7) hb13_g7 hb13_nosel hb13_f7 hb13_r7 (fun _ _ _ h => h) (Or.inl ⟨by rfl, ?_⟩) (by assumption) ?_
      rotate_left
      focus (intro w hSw; (try dsimp only at hSw); go_simp; try (with_reducible rfl))
      try simp only [Act.put, List.setIfInBounds_toArray, List.set_cons_zero, List.set_cons_succ]
      refine wpAnyH_take (i := 8) (oi := { dst := some 117, op := Op.pick (Operand.tmp 112) (Operand.tmp 116) (Operand.const (Value.bool false)), type := 4, pos := "law.go:48", after := #[{ on := 3, ground := Ground.data }, { on := 7, ground := Ground.data }], guard := none }) (v := ?_) (listed := hb13_l8) hb13_g8 hb13_nosel hb13_f8 hb13_r8 (fun _ _ _ h => h) (Or.inl ⟨by rfl, ?_⟩) (by assumption) ?_
      rotate_left
      focus (intro w hSw; (try dsimp only at hSw); go_simp; try (with_reducible rfl))
      try simp only [Act.put, List.setIfInBounds_toArray, List.set_cons_zero, List.set_cons_succ]
      refine wpAnyH_take (i := 9) (oi := { dst := some 118, op := Op.move (Operand.tmp 117), type := 4, pos := "law.go:48", after := #[{ on := 8, ground := Ground.data }, { on := 5, ground := Ground.chain }], guard := none }) (v := ?_) (listed := hb13_l9) hb13_g9 hb13_nosel hb13_f9 hb13_r9 (fun _ _ _ h => h) (Or.inl ⟨by rfl, ?_⟩) (by assumption) ?_
      rotate_left
      focus (intro w hSw; (try dsimp only at hSw); go_simp; try (with_reducible rfl))
      try simp only [Act.put, List.setIfInBounds_toArray, List.set_cons_zero, List.set_cons_succ]
      refine wpAnyH_take (i := 10) (oi := { dst := some 119, op := Op.move (Operand.tmp 10), type := 22, pos := "law.go:48", after := #[{ on := 9, ground := Ground.guard }], guard := some (9, true) }) (v := ?_) (listed := hb13_l10) hb13_g10 hb13_nosel hb13_f10 hb13_r10 (fun _ _ _ h => h) (Or.inl ⟨by rfl, ?_⟩) (by assumption) ?_
      rotate_left
      focus (intro w hSw; (try dsimp only at hSw); go_simp; try (with_reducible rfl))
      try simp only [Act.put, List.setIfInBounds_toArray, List.set_cons_zero, List.set_cons_succ]
      refine wpAnyH_take (i := 11) (oi := { dst := some 120, op := Op.move (Operand.tmp 13), type := 22, pos := "law.go:48", after := #[{ on := 9, ground := Ground.guard }], guard := some (9, true) }) (v := ?_) (listed := hb13_l11) hb13_g11 hb13_nosel hb13_f11 hb13_r11 (fun _ _ _ h => h) (Or.inl ⟨by rfl, ?_⟩) (by assumption) ?_
      rotate_left
      focus (intro w hSw; (try dsimp only at hSw); go_simp; try (with_reducible rfl))
      try simp only [Act.put, List.setIfInBounds_toArray, List.set_cons_zero, List.set_cons_succ]
      refine wpAnyH_ready (rs := [12]) (listed := hb13_l12) hb13_r12 (by simp) (AllReadyH.cons (o := { dst := some 121, op := Op.call { callee := Callee.value (Operand.func 22), args := #[Operand.tmp 119, Operand.tmp 120], argTypes := #[22, 22] }, type := 4, pos := "law.go:48", after := #[{ on := 10, ground := Ground.data }, { on := 11, ground := Ground.data }, { on := 9, ground := Ground.chain }, { on := 9, ground := Ground.guard }], guard := some (9, true) }) hb13_g12 (fun K hK => ?_) AllReadyH.nil)
      rw [if_pos (by rfl)]
      go_simp
      (go_at_call 22; refine (same_t _ _ T _ HQ5.out.rp HQ5.out.rq HTL.out).mono ?_; rintro e6 w6 ⟨rfl, n6, hw6⟩; have HQ6 : Hid (BQ w g gp gr ⟨2, rq, rs, sq⟩ ⟨Ht, Hq, Hr, Hs⟩ p q a x T A w6) := Lib.hid (by rw [hw6]; exact HQ5.out.drewN n6); clear hw6)
      go_wp2_with fail
      refine hK.out _ _ (BQ.s HQ6.out) (fun hHeld => ?_)
      clear hK K
      try simp only [Act.put, List.setIfInBounds_toArray, List.set_cons_zero, List.set_cons_succ]
      refine wpAnyH_take (i := 13) (oi := { dst := some 122, op := Op.pick (Operand.tmp 118) (Operand.tmp 121) (Operand.const (Value.bool false)), type := 4, pos := "law.go:48", after := #[{ on := 9, ground := Ground.data }, { on := 12, ground := Ground.data }], guard := none }) (v := ?_) (listed := hb13_l13) hb13_g13 hb13_nosel hb13_f13 hb13_r13 (fun _ _ _ h => h) (Or.inl ⟨by rfl, ?_⟩) (by assumption) ?_
      rotate_left
      focus (intro w hSw; (try dsimp only at hSw); go_simp; try (with_reducible rfl))
      try simp only [Act.put, List.setIfInBounds_toArray, List.set_cons_zero, List.set_cons_succ]
      refine wpAnyH_take (i := 14) (oi := { dst := some 123, op := Op.move (Operand.tmp 122), type := 4, pos := "law.go:48", after := #[{ on := 13, ground := Ground.data }, { on := 12, ground := Ground.chain }], guard := none }) (v := ?_) (listed := hb13_l14) hb13_g14 hb13_nosel hb13_f14 hb13_r14 (fun _ _ _ h => h) (Or.inl ⟨by rfl, ?_⟩) (by assumption) ?_
      rotate_left
      focus (intro w hSw; (try dsimp only at hSw); go_simp; try (with_reducible rfl))
      try simp only [Act.put, List.setIfInBounds_toArray, List.set_cons_zero, List.set_cons_succ]
      refine wpAnyH_take (i := 15) (oi := { dst := some 124, op := Op.move (Operand.tmp 16), type := 4, pos := "law.go:48", after := #[{ on := 14, ground := Ground.guard }], guard := some (14, true) }) (v := ?_) (listed := hb13_l15) hb13_g15 hb13_nosel hb13_f15 hb13_r15 (fun _ _ _ h => h) (Or.inl ⟨by rfl, ?_⟩) (by assumption) ?_
      rotate_left
      focus (intro w hSw; (try dsimp only at hSw); go_simp; try (with_reducible rfl))
      try simp only [Act.put, List.setIfInBounds_toArray, List.set_cons_zero, List.set_cons_succ]
      refine wpAnyH_take (i := 16) (oi := { dst := some 125, op := Op.move (Operand.tmp 18), type := 4, pos := "law.go:48", after := #[{ on := 14, ground := Ground.guard }], guard := some (14, true) }) (v := ?_) (listed := hb13_l16) hb13_g16 hb13_nosel hb13_f16 hb13_r16 (fun _ _ _ h => h) (Or.inl ⟨by rfl, ?_⟩) (by assumption) ?_
      rotate_left
      focus (intro w hSw; (try dsimp only at hSw); go_simp; try (with_reducible rfl))
      try simp only [Act.put, List.setIfInBounds_toArray, List.set_cons_zero, List.set_cons_succ]
      refine wpAnyH_take (i := 17) (oi := { dst := some 126, op := Op.binOp BinOp.eql 4 (Operand.tmp 124) (Operand.tmp 125) 4, type := 4, pos := "law.go:48", after := #[{ on := 15, ground := Ground.data }, { on := 16, ground := Ground.data }, { on := 14, ground := Ground.guard }], guard := some (14, true) }) (v := ?_) (listed := hb13_l17) hb13_g17 hb13_nosel hb13_f17 hb13_r17 (fun _ _ _ h => h) (Or.inl ⟨by rfl, ?_⟩) (by assumption) ?_
      rotate_left
      focus (intro w hSw; (try dsimp only at hSw); go_simp; try (with_reducible rfl))
      try simp only [Act.put, List.setIfInBounds_toArray, List.set_cons_zero, List.set_cons_succ]
      refine wpAnyH_take (i := 18) (oi := { dst := some 127, op := Op.pick (Operand.tmp 123) (Operand.tmp 126) (Operand.const (Value.bool false)), type := 4, pos := "law.go:48", after := #[{ on := 14, ground := Ground.data }, { on := 17, ground := Ground.data }], guard := none }) (v := ?_) (listed := hb13_l18) hb13_g18 hb13_nosel hb13_f18 hb13_r18 (fun _ _ _ h => h) (Or.inl ⟨by rfl, ?_⟩) (by assumption) ?_
      rotate_left
      focus (intro w hSw; (try dsimp only at hSw); go_simp; try (with_reducible rfl))
      try simp only [Act.put, List.setIfInBounds_toArray, List.set_cons_zero, List.set_cons_succ]
      refine wpAnyH_take (i := 19) (oi := { dst := some 128, op := Op.move (Operand.tmp 127), type := 4, pos := "law.go:48", after := #[{ on := 18, ground := Ground.data }, { on := 14, ground := Ground.chain }], guard := none }) (v := ?_) (listed := hb13_l19) hb13_g19 hb13_nosel hb13_f19 hb13_r19 (fun _ _ _ h => h) (Or.inl ⟨by rfl, ?_⟩) (by assumption) ?_
      rotate_left
      focus (intro w hSw; (try dsimp only at hSw); go_simp; try (with_reducible rfl))
      try simp only [Act.put, List.setIfInBounds_toArray, List.set_cons_zero, List.set_cons_succ]
      refine wpAnyH_take (i := 20) (oi := { dst := some 129, op := Op.move (Operand.tmp 15), type := 22, pos := "law.go:48", after := #[{ on := 19, ground := Ground.guard }], guard := some (19, true) }) (v := ?_) (listed := hb13_l20) hb13_g20 hb13_nosel hb13_f20 hb13_r20 (fun _ _ _ h => h) (Or.inl ⟨by rfl, ?_⟩) (by assumption) ?_
      rotate_left
      focus (intro w hSw; (try dsimp only at hSw); go_simp; try (with_reducible rfl))
      try simp only [Act.put, List.setIfInBounds_toArray, List.set_cons_zero, List.set_cons_succ]
      refine wpAnyH_take (i := 21) (oi := { dst := some 130, op := Op.move (Operand.tmp 17), type := 22, pos := "law.go:48", after := #[{ on := 19, ground := Ground.guard }], guard := some (19, true) }) (v := ?_) (listed := hb13_l21) hb13_g21 hb13_nosel hb13_f21 hb13_r21 (fun _ _ _ h => h) (Or.inl ⟨by rfl, ?_⟩) (by assumption) ?_
      rotate_left
      focus (intro w hSw; (try dsimp only at hSw); go_simp; try (with_reducible rfl))
      try simp only [Act.put, List.setIfInBounds_toArray, List.set_cons_zero, List.set_cons_succ]
      refine wpAnyH_ready (rs := [22]) (listed := hb13_l22) hb13_r22 (by simp) (AllReadyH.cons (o := { dst := some 131, op := Op.call { callee := Callee.value (Operand.func 22), args := #[Operand.tmp 129, Operand.tmp 130], argTypes := #[22, 22] }, type := 4, pos := "law.go:48", after := #[{ on := 20, ground := Ground.data }, { on := 21, ground := Ground.data }, { on := 19, ground := Ground.chain }, { on := 19, ground := Ground.guard }], guard := some (19, true) }) hb13_g22 (fun K hK => ?_) AllReadyH.nil)
      rw [if_pos (by rfl)]
      go_simp
      (go_at_call 22; refine (same_t _ _ A _ HQ6.out.ra HQ6.out.rx HAL.out).mono ?_; rintro e7 w7 ⟨rfl, n7, hw7⟩; have HQ7 : Hid (BQ w g gp gr ⟨2, rq, rs, sq⟩ ⟨Ht, Hq, Hr, Hs⟩ p q a x T A w7) := Lib.hid (by rw [hw7]; exact HQ6.out.drewN n7); clear hw7)
      go_wp2_with fail
      refine hK.out _ _ (BQ.s HQ7.out) (fun hHeld => ?_)
      clear hK K
      try simp only [Act.put, List.setIfInBounds_toArray, List.set_cons_zero, List.set_cons_succ]
      refine wpAnyH_take (i := 23) (oi := { dst := some 132, op := Op.pick (Operand.tmp 128) (Operand.tmp 131) (Operand.const (Value.bool false)), type := 4, pos := "law.go:48", after := #[{ on := 19, ground := Ground.data }, { on := 22, ground := Ground.data }], guard := none }) (v := ?_) (listed := hb13_l23) hb13_g23 hb13_nosel hb13_f23 hb13_r23 (fun _ _ _ h => h) (Or.inl ⟨by rfl, ?_⟩) (by assumption) ?_
      rotate_left
      focus (intro w hSw; (try dsimp only at hSw); go_simp; try (with_reducible rfl))
      try simp only [Act.put, List.setIfInBounds_toArray, List.set_cons_zero, List.set_cons_succ]
      refine wpAnyH_take (i := 24) (oi := { dst := some 133, op := Op.move (Operand.tmp 132), type := 4, pos := "law.go:48", after := #[{ on := 23, ground := Ground.data }, { on := 22, ground := Ground.chain }], guard := none }) (v := ?_) (listed := hb13_l24) hb13_g24 hb13_nosel hb13_f24 hb13_r24 (fun _ _ _ h => h) (Or.inl ⟨by rfl, ?_⟩) (by assumption) ?_
      rotate_left
      focus (intro w hSw; (try dsimp only at hSw); go_simp; try (with_reducible rfl))
      try simp only [Act.put, List.setIfInBounds_toArray, List.set_cons_zero, List.set_cons_succ]
      refine wpAnyH_take (i := 25) (oi := { dst := some 134, op := Op.move (Operand.tmp 2), type := 26, pos := "law.go:48", after := #[{ on := 24, ground := Ground.guard }], guard := some (24, true) }) (v := ?_) (listed := hb13_l25) hb13_g25 hb13_nosel hb13_f25 hb13_r25 (fun _ _ _ h => h) (Or.inl ⟨by rfl, ?_⟩) (by assumption) ?_
      rotate_left
      focus (intro w hSw; (try dsimp only at hSw); go_simp; try (with_reducible rfl))
      try simp only [Act.put, List.setIfInBounds_toArray, List.set_cons_zero, List.set_cons_succ]
      refine wpAnyH_take (i := 27) (oi := { dst := some 136, op := Op.move (Operand.tmp 2), type := 26, pos := "law.go:48", after := #[{ on := 24, ground := Ground.guard }], guard := some (24, true) }) (v := ?_) (listed := hb13_l26) hb13_g27 hb13_nosel hb13_f26 hb13_r26 (fun _ _ _ h => h) (Or.inl ⟨by rfl, ?_⟩) (by assumption) ?_
      rotate_left
      focus (intro w hSw; (try dsimp only at hSw); go_simp; try (with_reducible rfl))
      try simp only [Act.put, List.setIfInBounds_toArray, List.set_cons_zero, List.set_cons_succ]
      refine wpAnyH_ready (rs := [26]) (listed := hb13_l27) hb13_r27 (by simp) (AllReadyH.cons (o := { dst := some 135, op := Op.call { callee := Callee.value (Operand.func 23), args := #[Operand.tmp 134], argTypes := #[26] }, type := 5, pos := "law.go:48", after := #[{ on := 25, ground := Ground.data }, { on := 24, ground := Ground.chain }, { on := 24, ground := Ground.guard }], guard := some (24, true) }) hb13_g26 (fun K hK => ?_) AllReadyH.nil)
      rw [if_pos (by rfl)]
      go_simp
      (go_at_call 23; refine (hcode_any e _).mono ?_; rintro e8 w8 ⟨rfl, rfl⟩)
      go_wp2_with fail
      refine hK.out _ _ (BQ.s HQ7.out) (fun hHeld => ?_)
      clear hK K
      try simp only [Act.put, List.setIfInBounds_toArray, List.set_cons_zero, List.set_cons_succ]
      refine wpAnyH_ready (rs := [28]) (listed := hb13_l28) hb13_r28 (by simp) (AllReadyH.cons (o := { dst := some 137, op := Op.call { callee := Callee.value (Operand.func 24), args := #[Operand.tmp 136], argTypes := #[3] }, type := 5, pos := "law.go:48", after := #[{ on := 27, ground := Ground.data }, { on := 26, ground := Ground.chain }, { on := 24, ground := Ground.guard }], guard := some (24, true) }) hb13_g28 (fun K hK => ?_) AllReadyH.nil)
      rw [if_pos (by rfl)]
      go_simp
      (go_at_call 24; refine (rcode_any e _).mono ?_; rintro e9 w9 ⟨rfl, rfl⟩)
      go_wp2_with fail
      refine hK.out _ _ (BQ.s HQ7.out) (fun hHeld => ?_)
      clear hK K
      try simp only [Act.put, List.setIfInBounds_toArray, List.set_cons_zero, List.set_cons_succ]
      refine wpAnyH_take (i := 29) (oi := { dst := some 138, op := Op.binOp BinOp.eql 5 (Operand.tmp 135) (Operand.tmp 137) 5, type := 4, pos := "law.go:48", after := #[{ on := 26, ground := Ground.data }, { on := 28, ground := Ground.data }, { on := 24, ground := Ground.guard }], guard := some (24, true) }) (v := ?_) (listed := hb13_l29) hb13_g29 hb13_nosel hb13_f29 hb13_r29 (fun _ _ _ h => h) (Or.inl ⟨by rfl, ?_⟩) (by assumption) ?_
      rotate_left
      focus (intro w hSw; (try dsimp only at hSw); go_simp; try (with_reducible rfl))
      try simp only [Act.put, List.setIfInBounds_toArray, List.set_cons_zero, List.set_cons_succ]
      refine wpAnyH_take (i := 30) (oi := { dst := some 139, op := Op.pick (Operand.tmp 133) (Operand.tmp 138) (Operand.const (Value.bool false)), type := 4, pos := "law.go:48", after := #[{ on := 24, ground := Ground.data }, { on := 29, ground := Ground.data }], guard := none }) (v := ?_) (listed := hb13_l30) hb13_g30 hb13_nosel hb13_f30 hb13_r30 (fun _ _ _ h => h) (Or.inl ⟨by rfl, ?_⟩) (by assumption) ?_
      rotate_left
      focus (intro w hSw; (try dsimp only at hSw); go_simp; try (with_reducible rfl))
      try simp only [Act.put, List.setIfInBounds_toArray, List.set_cons_zero, List.set_cons_succ]
      refine wpAnyH_take (i := 31) (oi := { dst := some 140, op := Op.move (Operand.tmp 139), type := 4, pos := "law.go:48", after := #[{ on := 30, ground := Ground.data }, { on := 28, ground := Ground.chain }], guard := none }) (v := ?_) (listed := hb13_l31) hb13_g31 hb13_nosel hb13_f31 hb13_r31 (fun _ _ _ h => h) (Or.inl ⟨by rfl, ?_⟩) (by assumption) ?_
      rotate_left
      focus (intro w hSw; (try dsimp only at hSw); go_simp; try (with_reducible rfl))
      try simp only [Act.put, List.setIfInBounds_toArray, List.set_cons_zero, List.set_cons_succ]
      refine wpAnyH_take (i := 32) (oi := { dst := some 141, op := Op.load 25 (Operand.tmp 5), type := 25, pos := "law.go:48", after := #[{ on := 31, ground := Ground.guard }], guard := some (31, true) }) (v := ?_) (listed := hb13_l32) hb13_g32 hb13_nosel hb13_f32 hb13_r32 (fun _ _ _ h => h) (Or.inl ⟨by rfl, ?_⟩) (by assumption) ?_
      rotate_left
      focus (intro w hSw; (try dsimp only at hSw); go_simp; try (with_reducible rfl))
      try simp only [Act.put, List.setIfInBounds_toArray, List.set_cons_zero, List.set_cons_succ]
      refine wpAnyH_take (i := 33) (oi := { dst := some 142, op := Op.move (Operand.tmp 3), type := 22, pos := "law.go:48", after := #[{ on := 31, ground := Ground.guard }], guard := some (31, true) }) (v := ?_) (listed := hb13_l33) hb13_g33 hb13_nosel hb13_f33 hb13_r33 (fun _ _ _ h => h) (Or.inl ⟨by rfl, ?_⟩) (by assumption) ?_
      rotate_left
      focus (intro w hSw; (try dsimp only at hSw); go_simp; try (with_reducible rfl))
      try simp only [Act.put, List.setIfInBounds_toArray, List.set_cons_zero, List.set_cons_succ]
      refine wpAnyH_take (i := 35) (oi := { dst := some 144, op := Op.load 25 (Operand.tmp 5), type := 25, pos := "law.go:48", after := #[{ on := 31, ground := Ground.guard }], guard := some (31, true) }) (v := ?_) (listed := hb13_l34) hb13_g35 hb13_nosel hb13_f34 hb13_r34 (fun _ _ _ h => h) (Or.inl ⟨by rfl, ?_⟩) (by assumption) ?_
      rotate_left
      focus (intro w hSw; (try dsimp only at hSw); go_simp; try (with_reducible rfl))
      try simp only [Act.put, List.setIfInBounds_toArray, List.set_cons_zero, List.set_cons_succ]
      refine wpAnyH_take (i := 37) (oi := { dst := some 146, op := Op.move (Operand.tmp 3), type := 22, pos := "law.go:48", after := #[{ on := 31, ground := Ground.guard }], guard := some (31, true) }) (v := ?_) (listed := hb13_l35) hb13_g37 hb13_nosel hb13_f35 hb13_r35 (fun _ _ _ h => h) (Or.inl ⟨by rfl, ?_⟩) (by assumption) ?_
      rotate_left
      focus (intro w hSw; (try dsimp only at hSw); go_simp; try (with_reducible rfl))
      try simp only [Act.put, List.setIfInBounds_toArray, List.set_cons_zero, List.set_cons_succ]
      refine wpAnyH_ready (rs := [34]) (listed := hb13_l36) hb13_r36 (by simp) (AllReadyH.cons (o := { dst := some 143, op := Op.call { callee := Callee.value (Operand.func 25), args := #[Operand.tmp 141, Operand.tmp 142], argTypes := #[25, 22] }, type := 22, pos := "law.go:48", after := #[{ on := 32, ground := Ground.data }, { on := 33, ground := Ground.data }, { on := 31, ground := Ground.chain }, { on := 31, ground := Ground.guard }], guard := some (31, true) }) hb13_g34 (fun K hK => ?_) AllReadyH.nil)
      rw [if_pos (by rfl)]
      go_simp
      (go_at_call 25; refine (hwrite_any ⟨2, rq, rs, sq⟩ HKO.out _ M _ (HWR.out _ HQ7.out.old) (cut_nil HCM.out) HML.out).mono ?_; rintro ea wa ⟨pa, rfl, ha, ba⟩; have HA := Lib.hid ha.row; have HQA := Lib.hid (HQ7.out.below ba); clear ha ba)
      go_wp2_with fail
      refine hK.out _ _ (BQ.s HQA.out) (fun hHeld => ?_)
      clear hK K
      try simp only [Act.put, List.setIfInBounds_toArray, List.set_cons_zero, List.set_cons_succ]
      refine wpAnyH_ready (rs := [36]) (listed := hb13_l37) hb13_r37 (by simp) (AllReadyH.cons (o := { dst := some 145, op := Op.call { callee := Callee.value (Operand.func 20), args := #[Operand.tmp 144], argTypes := #[25] }, type := 31, pos := "law.go:48", after := #[{ on := 35, ground := Ground.data }, { on := 34, ground := Ground.chain }, { on := 31, ground := Ground.guard }], guard := some (31, true) }) hb13_g36 (fun K hK => ?_) AllReadyH.nil)
      rw [if_pos (by rfl)]
      go_simp
      (go_at_call 20; refine (has_any ⟨2, rq, rs, sq⟩ HKO.out _).mono ?_; rintro eb wb ⟨rfl, bb⟩; simp only [rhA]; have HQB := Lib.hid (HQA.out.below bb); have HB := Lib.hid (HA.out.below bb); clear bb)
      go_wp2_with fail
      refine hK.out _ _ (BQ.s HQB.out) (fun hHeld => ?_)
      clear hK K
      try simp only [Act.put, List.setIfInBounds_toArray, List.set_cons_zero, List.set_cons_succ]
      refine wpAnyH_ready (rs := [38]) (listed := hb13_l38) hb13_r38 (by simp) (AllReadyH.cons (o := { dst := some 147, op := Op.call { callee := Callee.value (Operand.func 26), args := #[Operand.tmp 145, Operand.tmp 146], argTypes := #[31, 22] }, type := 22, pos := "law.go:48", after := #[{ on := 36, ground := Ground.data }, { on := 37, ground := Ground.data }, { on := 36, ground := Ground.chain }, { on := 31, ground := Ground.guard }], guard := some (31, true) }) hb13_g38 (fun K hK => ?_) AllReadyH.nil)
      rw [if_pos (by rfl)]
      go_simp
      (go_at_call 26; refine (rwrite_any ⟨2, rq, rs, sq⟩ HKO.out _ M _ (HWR.out _ HQB.out.old) HML.out).mono ?_; rintro ec wc ⟨pc, rfl, hc, bc⟩; have HC := Lib.hid hc.row; have HQC := Lib.hid (HQB.out.below bc); have HBC := Lib.hid (HB.out.below bc); clear hc bc)
      go_wp2_with fail
      refine hK.out _ _ (BQ.s HQC.out) (fun hHeld => ?_)
      clear hK K
      try simp only [Act.put, List.setIfInBounds_toArray, List.set_cons_zero, List.set_cons_succ]
      refine wpAnyH_ready (rs := [39]) (listed := hb13_l39) hb13_r39 (by simp) (AllReadyH.cons (o := { dst := some 148, op := Op.call { callee := Callee.value (Operand.func 22), args := #[Operand.tmp 143, Operand.tmp 147], argTypes := #[22, 22] }, type := 4, pos := "law.go:48", after := #[{ on := 34, ground := Ground.data }, { on := 38, ground := Ground.data }, { on := 38, ground := Ground.chain }, { on := 31, ground := Ground.guard }], guard := some (31, true) }) hb13_g39 (fun K hK => ?_) AllReadyH.nil)
      rw [if_pos (by rfl)]
      go_simp
      (go_at_call 22; refine (same_t _ _ (hdL ⟨2, rq, rs, sq⟩ ++ M) _ HBC.out HC.out HHL.out).mono ?_; rintro ed wd ⟨rfl, nd, hwd⟩; have HQD : Hid (BQ w g gp gr ⟨2, rq, rs, sq⟩ ⟨Ht, Hq, Hr, Hs⟩ p q a x T A wd) := Lib.hid (by rw [hwd]; exact HQC.out.drewN nd); clear hwd)
      go_wp2_with fail
      refine hK.out _ _ (BQ.s HQD.out) (fun hHeld => ?_)
      clear hK K
      try simp only [Act.put, List.setIfInBounds_toArray, List.set_cons_zero, List.set_cons_succ]
      refine wpAnyH_take (i := 40) (oi := { dst := some 149, op := Op.pick (Operand.tmp 140) (Operand.tmp 148) (Operand.const (Value.bool false)), type := 4, pos := "law.go:48", after := #[{ on := 31, ground := Ground.data }, { on := 39, ground := Ground.data }], guard := none }) (v := ?_) (listed := hb13_l40) hb13_g40 hb13_nosel hb13_f40 hb13_r40 (fun _ _ _ h => h) (Or.inl ⟨by rfl, ?_⟩) (by assumption) ?_
      rotate_left
      focus (intro w hSw; (try dsimp only at hSw); go_simp; try (with_reducible rfl))
      try simp only [Act.put, List.setIfInBounds_toArray, List.set_cons_zero, List.set_cons_succ]
      refine wpAnyH_take (i := 41) (oi := { dst := some 8, op := Op.assign (Operand.tmp 149), type := 4, pos := "law.go:48", after := #[{ on := 40, ground := Ground.data }, { on := 39, ground := Ground.chain }, { on := 0, ground := Ground.phase }, { on := 1, ground := Ground.phase }, { on := 2, ground := Ground.phase }, { on := 3, ground := Ground.phase }, { on := 4, ground := Ground.phase }, { on := 5, ground := Ground.phase }, { on := 6, ground := Ground.phase }, { on := 7, ground := Ground.phase }, { on := 8, ground := Ground.phase }, { on := 9, ground := Ground.phase }, { on := 10, ground := Ground.phase }, { on := 11, ground := Ground.phase }, { on := 12, ground := Ground.phase }, { on := 13, ground := Ground.phase }, { on := 14, ground := Ground.phase }, { on := 15, ground := Ground.phase }, { on := 16, ground := Ground.phase }, { on := 17, ground := Ground.phase }, { on := 18, ground := Ground.phase }, { on := 19, ground := Ground.phase }, { on := 20, ground := Ground.phase }, { on := 21, ground := Ground.phase }, { on := 22, ground := Ground.phase }, { on := 23, ground := Ground.phase }, { on := 24, ground := Ground.phase }, { on := 25, ground := Ground.phase }, { on := 26, ground := Ground.phase }, { on := 27, ground := Ground.phase }, { on := 28, ground := Ground.phase }, { on := 29, ground := Ground.phase }, { on := 30, ground := Ground.phase }, { on := 31, ground := Ground.phase }, { on := 32, ground := Ground.phase }, { on := 33, ground := Ground.phase }, { on := 34, ground := Ground.phase }, { on := 35, ground := Ground.phase }, { on := 36, ground := Ground.phase }, { on := 37, ground := Ground.phase }, { on := 38, ground := Ground.phase }, { on := 39, ground := Ground.phase }, { on := 40, ground := Ground.phase }], guard := none }) (v := ?_) (listed := hb13_l41) hb13_g41 hb13_nosel hb13_f41 hb13_r41 (fun _ _ _ h => h) (Or.inl ⟨by rfl, ?_⟩) (by assumption) ?_
      rotate_left
      focus (intro w hSw; (try dsimp only at hSw); go_simp; try (with_reducible rfl))
      try simp only [Act.put, List.setIfInBounds_toArray, List.set_cons_zero, List.set_cons_succ]
      refine wpAnyH_done (listed := hb13_l42) hb13_end ?_ _
      go_wp2
      go_ret
      exact ⟨rfl, HQD.out.old⟩
  · have t1 : (ty == 2) = false := by simpa using h1
    clear hno
    go_wp2_with fail
    refine (sense_no ⟨ty, rq, rs, sq⟩ _ M W8 HSN.out (HWR.out _ HB0.out.old) HML.out).mono ?_
    rintro e9 W9 ⟨rfl, b9⟩
    have HB9 := Lib.hid (HB0.out.below b9)
    clear c0 c1 c2 c3 b9
    obtain ⟨c0, c1, c2, c3, _⟩ := HB9.out.s
    simp only at c0 c1 c2 c3
    go_upto_region 13 with fail
    have HQ0 := Lib.hid (HB9.out.drew)
    clear c0 c1 c2 c3
    change Code.wp _ (Code.region 13 hb13 true) _ _ _
    refine wp_region_held_drew (S := (fun W => W.cell? ⟨g, 0, none⟩ = some (.int .u8 ty) ∧ W.cell? ⟨g, 1, none⟩ = some (.int .u8 rq) ∧ W.cell? ⟨g, 2, none⟩ = some (.int .u8 rs) ∧ W.cell? ⟨g, 3, none⟩ = some (.int .u16 sq) ∧ W.cell? ⟨gp, 0, none⟩ = some (.int .u8 Ht) ∧ W.cell? ⟨gp, 1, none⟩ = some (.int .u8 Hq) ∧ W.cell? ⟨gp, 2, none⟩ = some (.int .u8 Hr) ∧ W.cell? ⟨gp, 3, none⟩ = some (.int .u16 Hs) ∧ W.cell? ⟨gr, 0, none⟩ = some (.int .u8 Ht) ∧ W.cell? ⟨gr, 1, none⟩ = some (.int .u8 Hq) ∧ W.cell? ⟨gr, 2, none⟩ = some (.int .u8 Hr) ∧ W.cell? ⟨gr, 3, none⟩ = some (.int .i64 Hs))) (by kernel_rfl) (HQ0.out.s) (fun hHeld => ?_)
    change wpAnyH _ .any hb13 _ _ 42 hb13_l0 _ _
    refine wpAnyH_take (i := 0) (oi := { dst := some 109, op := Op.move (Operand.tmp 11), type := 26, pos := "law.go:48", after := #[], guard := none }) (v := ?_) (listed := hb13_l0) hb13_g0 hb13_nosel hb13_f0 hb13_r0 (fun _ _ _ h => h) (Or.inl ⟨by rfl, ?_⟩) (by assumption) ?_
    rotate_left
    focus (intro w hSw; (try dsimp only at hSw); go_simp; try (with_reducible rfl))
    try simp only [Act.put, List.setIfInBounds_toArray, List.set_cons_zero, List.set_cons_succ]
    refine wpAnyH_take (i := 1) (oi := { dst := some 110, op := Op.move (Operand.tmp 14), type := 3, pos := "law.go:48", after := #[], guard := none }) (v := ?_) (listed := hb13_l1) hb13_g1 hb13_nosel hb13_f1 hb13_r1 (fun _ _ _ h => h) (Or.inl ⟨by rfl, ?_⟩) (by assumption) ?_
    rotate_left
    focus (intro w hSw; (try dsimp only at hSw); go_simp; try (with_reducible rfl))
    try simp only [Act.put, List.setIfInBounds_toArray, List.set_cons_zero, List.set_cons_succ]
    refine wpAnyH_take (i := 2) (oi := { dst := some 111, op := Op.binOp BinOp.eql 3 (Operand.tmp 109) (Operand.tmp 110) 3, type := 4, pos := "law.go:48", after := #[{ on := 0, ground := Ground.data }, { on := 1, ground := Ground.data }], guard := none }) (v := ?_) (listed := hb13_l2) hb13_g2 hb13_nosel hb13_f2 hb13_r2 (fun _ _ _ h => h) (Or.inl ⟨by rfl, ?_⟩) (by assumption) ?_
    rotate_left
    focus (intro w hSw; (try dsimp only at hSw); go_simp; try (with_reducible rfl))
    try simp only [Act.put, List.setIfInBounds_toArray, List.set_cons_zero, List.set_cons_succ]
    refine wpAnyH_take (i := 3) (oi := { dst := some 112, op := Op.move (Operand.tmp 111), type := 4, pos := "law.go:48", after := #[{ on := 2, ground := Ground.data }], guard := none }) (v := ?_) (listed := hb13_l3) hb13_g3 hb13_nosel hb13_f3 hb13_r3 (fun _ _ _ h => h) (Or.inl ⟨by rfl, ?_⟩) (by assumption) ?_
    rotate_left
    focus (intro w hSw; (try dsimp only at hSw); go_simp; try (with_reducible rfl))
    try simp only [Act.put, List.setIfInBounds_toArray, List.set_cons_zero, List.set_cons_succ]
    refine wpAnyH_take (i := 4) (oi := { dst := some 113, op := Op.load 25 (Operand.tmp 9), type := 25, pos := "law.go:48", after := #[{ on := 3, ground := Ground.guard }], guard := some (3, true) }) (v := ?_) (listed := hb13_l4) hb13_g4 hb13_nosel hb13_f4 hb13_r4 (fun _ _ _ h => h) (Or.inl ⟨by rfl, ?_⟩) (by assumption) ?_
    rotate_left
    focus (intro w hSw; (try dsimp only at hSw); go_simp; try (with_reducible rfl))
    try simp only [Act.put, List.setIfInBounds_toArray, List.set_cons_zero, List.set_cons_succ]
    refine wpAnyH_take (i := 6) (oi := { dst := some 115, op := Op.load 31 (Operand.tmp 12), type := 31, pos := "law.go:48", after := #[{ on := 3, ground := Ground.guard }], guard := some (3, true) }) (v := ?_) (listed := hb13_l5) hb13_g6 hb13_nosel hb13_f5 hb13_r5 (fun _ _ _ h => h) (Or.inl ⟨by rfl, ?_⟩) (by assumption) ?_
    rotate_left
    focus (intro w hSw; (try dsimp only at hSw); go_simp; try (with_reducible rfl))
    try simp only [Act.put, List.setIfInBounds_toArray, List.set_cons_zero, List.set_cons_succ]
    refine wpAnyH_ready (rs := [5]) (listed := hb13_l6) hb13_r6 (by simp) (AllReadyH.cons (o := { dst := some 114, op := Op.call { callee := Callee.value (Operand.func 20), args := #[Operand.tmp 113], argTypes := #[25] }, type := 31, pos := "law.go:48", after := #[{ on := 4, ground := Ground.data }, { on := 3, ground := Ground.chain }, { on := 3, ground := Ground.guard }], guard := some (3, true) }) hb13_g5 (fun K hK => ?_) AllReadyH.nil)
    rw [if_pos (by rfl)]
    go_simp
    (go_at_call 20; refine (has_any ⟨Ht, Hq, Hr, Hs⟩ HKH.out _).mono ?_; rintro e5 w5 ⟨rfl, b5⟩; simp only [rhA]; have HQ5 := Lib.hid (HQ0.out.below b5); clear b5)
    go_wp2_with fail
    refine hK.out _ _ (BQ.s HQ5.out) (fun hHeld => ?_)
    clear hK K
    try simp only [Act.put, List.setIfInBounds_toArray, List.set_cons_zero, List.set_cons_succ]
    refine wpAnyH_take (i := 7) (oi := { dst := some 116, op := Op.binOp BinOp.eql 31 (Operand.tmp 114) (Operand.tmp 115) 31, type := 4, pos := "law.go:48", after := #[{ on := 5, ground := Ground.data }, { on := 6, ground := Ground.data }, { on := 3, ground := Ground.guard }], guard := some (3, true) }) (v := ?_) (listed := hb13_l7) hb13_g7 hb13_nosel hb13_f7 hb13_r7 (fun _ _ _ h => h) (Or.inl ⟨by rfl, ?_⟩) (by assumption) ?_
    rotate_left
    focus (intro w hSw; (try dsimp only at hSw); go_simp; try (with_reducible rfl))
    try simp only [Act.put, List.setIfInBounds_toArray, List.set_cons_zero, List.set_cons_succ]
    refine wpAnyH_take (i := 8) (oi := { dst := some 117, op := Op.pick (Operand.tmp 112) (Operand.tmp 116) (Operand.const (Value.bool false)), type := 4, pos := "law.go:48", after := #[{ on := 3, ground := Ground.data }, { on := 7, ground := Ground.data }], guard := none }) (v := ?_) (listed := hb13_l8) hb13_g8 hb13_nosel hb13_f8 hb13_r8 (fun _ _ _ h => h) (Or.inl ⟨by rfl, ?_⟩) (by assumption) ?_
    rotate_left
    focus (intro w hSw; (try dsimp only at hSw); go_simp; try (with_reducible rfl))
    try simp only [Act.put, List.setIfInBounds_toArray, List.set_cons_zero, List.set_cons_succ]
    refine wpAnyH_take (i := 9) (oi := { dst := some 118, op := Op.move (Operand.tmp 117), type := 4, pos := "law.go:48", after := #[{ on := 8, ground := Ground.data }, { on := 5, ground := Ground.chain }], guard := none }) (v := ?_) (listed := hb13_l9) hb13_g9 hb13_nosel hb13_f9 hb13_r9 (fun _ _ _ h => h) (Or.inl ⟨by rfl, ?_⟩) (by assumption) ?_
    rotate_left
    focus (intro w hSw; (try dsimp only at hSw); go_simp; try (with_reducible rfl))
    try simp only [Act.put, List.setIfInBounds_toArray, List.set_cons_zero, List.set_cons_succ]
    refine wpAnyH_take (i := 10) (oi := { dst := some 119, op := Op.move (Operand.tmp 10), type := 22, pos := "law.go:48", after := #[{ on := 9, ground := Ground.guard }], guard := some (9, true) }) (v := ?_) (listed := hb13_l10) hb13_g10 hb13_nosel hb13_f10 hb13_r10 (fun _ _ _ h => h) (Or.inl ⟨by rfl, ?_⟩) (by assumption) ?_
    rotate_left
    focus (intro w hSw; (try dsimp only at hSw); go_simp; try (with_reducible rfl))
    try simp only [Act.put, List.setIfInBounds_toArray, List.set_cons_zero, List.set_cons_succ]
    refine wpAnyH_take (i := 11) (oi := { dst := some 120, op := Op.move (Operand.tmp 13), type := 22, pos := "law.go:48", after := #[{ on := 9, ground := Ground.guard }], guard := some (9, true) }) (v := ?_) (listed := hb13_l11) hb13_g11 hb13_nosel hb13_f11 hb13_r11 (fun _ _ _ h => h) (Or.inl ⟨by rfl, ?_⟩) (by assumption) ?_
    rotate_left
    focus (intro w hSw; (try dsimp only at hSw); go_simp; try (with_reducible rfl))
    try simp only [Act.put, List.setIfInBounds_toArray, List.set_cons_zero, List.set_cons_succ]
    refine wpAnyH_ready (rs := [12]) (listed := hb13_l12) hb13_r12 (by simp) (AllReadyH.cons (o := { dst := some 121, op := Op.call { callee := Callee.value (Operand.func 22), args := #[Operand.tmp 119, Operand.tmp 120], argTypes := #[22, 22] }, type := 4, pos := "law.go:48", after := #[{ on := 10, ground := Ground.data }, { on := 11, ground := Ground.data }, { on := 9, ground := Ground.chain }, { on := 9, ground := Ground.guard }], guard := some (9, true) }) hb13_g12 (fun K hK => ?_) AllReadyH.nil)
    rw [if_pos (by rfl)]
    go_simp
    (go_at_call 22; refine (same_t _ _ T _ HQ5.out.rp HQ5.out.rq HTL.out).mono ?_; rintro e6 w6 ⟨rfl, n6, hw6⟩; have HQ6 : Hid (BQ w g gp gr ⟨ty, rq, rs, sq⟩ ⟨Ht, Hq, Hr, Hs⟩ p q a x T A w6) := Lib.hid (by rw [hw6]; exact HQ5.out.drewN n6); clear hw6)
    go_wp2_with fail
    refine hK.out _ _ (BQ.s HQ6.out) (fun hHeld => ?_)
    clear hK K
    try simp only [Act.put, List.setIfInBounds_toArray, List.set_cons_zero, List.set_cons_succ]
    refine wpAnyH_take (i := 13) (oi := { dst := some 122, op := Op.pick (Operand.tmp 118) (Operand.tmp 121) (Operand.const (Value.bool false)), type := 4, pos := "law.go:48", after := #[{ on := 9, ground := Ground.data }, { on := 12, ground := Ground.data }], guard := none }) (v := ?_) (listed := hb13_l13) hb13_g13 hb13_nosel hb13_f13 hb13_r13 (fun _ _ _ h => h) (Or.inl ⟨by rfl, ?_⟩) (by assumption) ?_
    rotate_left
    focus (intro w hSw; (try dsimp only at hSw); go_simp; try (with_reducible rfl))
    try simp only [Act.put, List.setIfInBounds_toArray, List.set_cons_zero, List.set_cons_succ]
    refine wpAnyH_take (i := 14) (oi := { dst := some 123, op := Op.move (Operand.tmp 122), type := 4, pos := "law.go:48", after := #[{ on := 13, ground := Ground.data }, { on := 12, ground := Ground.chain }], guard := none }) (v := ?_) (listed := hb13_l14) hb13_g14 hb13_nosel hb13_f14 hb13_r14 (fun _ _ _ h => h) (Or.inl ⟨by rfl, ?_⟩) (by assumption) ?_
    rotate_left
    focus (intro w hSw; (try dsimp only at hSw); go_simp; try (with_reducible rfl))
    try simp only [Act.put, List.setIfInBounds_toArray, List.set_cons_zero, List.set_cons_succ]
    refine wpAnyH_take (i := 15) (oi := { dst := some 124, op := Op.move (Operand.tmp 16), type := 4, pos := "law.go:48", after := #[{ on := 14, ground := Ground.guard }], guard := some (14, true) }) (v := ?_) (listed := hb13_l15) hb13_g15 hb13_nosel hb13_f15 hb13_r15 (fun _ _ _ h => h) (Or.inl ⟨by rfl, ?_⟩) (by assumption) ?_
    rotate_left
    focus (intro w hSw; (try dsimp only at hSw); go_simp; try (with_reducible rfl))
    try simp only [Act.put, List.setIfInBounds_toArray, List.set_cons_zero, List.set_cons_succ]
    refine wpAnyH_take (i := 16) (oi := { dst := some 125, op := Op.move (Operand.tmp 18), type := 4, pos := "law.go:48", after := #[{ on := 14, ground := Ground.guard }], guard := some (14, true) }) (v := ?_) (listed := hb13_l16) hb13_g16 hb13_nosel hb13_f16 hb13_r16 (fun _ _ _ h => h) (Or.inl ⟨by rfl, ?_⟩) (by assumption) ?_
    rotate_left
    focus (intro w hSw; (try dsimp only at hSw); go_simp; try (with_reducible rfl))
    try simp only [Act.put, List.setIfInBounds_toArray, List.set_cons_zero, List.set_cons_succ]
    refine wpAnyH_take (i := 17) (oi := { dst := some 126, op := Op.binOp BinOp.eql 4 (Operand.tmp 124) (Operand.tmp 125) 4, type := 4, pos := "law.go:48", after := #[{ on := 15, ground := Ground.data }, { on := 16, ground := Ground.data }, { on := 14, ground := Ground.guard }], guard := some (14, true) }) (v := ?_) (listed := hb13_l17) hb13_g17 hb13_nosel hb13_f17 hb13_r17 (fun _ _ _ h => h) (Or.inl ⟨by rfl, ?_⟩) (by assumption) ?_
    rotate_left
    focus (intro w hSw; (try dsimp only at hSw); go_simp; try (with_reducible rfl))
    try simp only [Act.put, List.setIfInBounds_toArray, List.set_cons_zero, List.set_cons_succ]
    refine wpAnyH_take (i := 18) (oi := { dst := some 127, op := Op.pick (Operand.tmp 123) (Operand.tmp 126) (Operand.const (Value.bool false)), type := 4, pos := "law.go:48", after := #[{ on := 14, ground := Ground.data }, { on := 17, ground := Ground.data }], guard := none }) (v := ?_) (listed := hb13_l18) hb13_g18 hb13_nosel hb13_f18 hb13_r18 (fun _ _ _ h => h) (Or.inl ⟨by rfl, ?_⟩) (by assumption) ?_
    rotate_left
    focus (intro w hSw; (try dsimp only at hSw); go_simp; try (with_reducible rfl))
    try simp only [Act.put, List.setIfInBounds_toArray, List.set_cons_zero, List.set_cons_succ]
    refine wpAnyH_take (i := 19) (oi := { dst := some 128, op := Op.move (Operand.tmp 127), type := 4, pos := "law.go:48", after := #[{ on := 18, ground := Ground.data }, { on := 14, ground := Ground.chain }], guard := none }) (v := ?_) (listed := hb13_l19) hb13_g19 hb13_nosel hb13_f19 hb13_r19 (fun _ _ _ h => h) (Or.inl ⟨by rfl, ?_⟩) (by assumption) ?_
    rotate_left
    focus (intro w hSw; (try dsimp only at hSw); go_simp; try (with_reducible rfl))
    try simp only [Act.put, List.setIfInBounds_toArray, List.set_cons_zero, List.set_cons_succ]
    refine wpAnyH_take (i := 20) (oi := { dst := some 129, op := Op.move (Operand.tmp 15), type := 22, pos := "law.go:48", after := #[{ on := 19, ground := Ground.guard }], guard := some (19, true) }) (v := ?_) (listed := hb13_l20) hb13_g20 hb13_nosel hb13_f20 hb13_r20 (fun _ _ _ h => h) (Or.inl ⟨by rfl, ?_⟩) (by assumption) ?_
    rotate_left
    focus (intro w hSw; (try dsimp only at hSw); go_simp; try (with_reducible rfl))
    try simp only [Act.put, List.setIfInBounds_toArray, List.set_cons_zero, List.set_cons_succ]
    refine wpAnyH_take (i := 21) (oi := { dst := some 130, op := Op.move (Operand.tmp 17), type := 22, pos := "law.go:48", after := #[{ on := 19, ground := Ground.guard }], guard := some (19, true) }) (v := ?_) (listed := hb13_l21) hb13_g21 hb13_nosel hb13_f21 hb13_r21 (fun _ _ _ h => h) (Or.inl ⟨by rfl, ?_⟩) (by assumption) ?_
    rotate_left
    focus (intro w hSw; (try dsimp only at hSw); go_simp; try (with_reducible rfl))
    try simp only [Act.put, List.setIfInBounds_toArray, List.set_cons_zero, List.set_cons_succ]
    refine wpAnyH_ready (rs := [22]) (listed := hb13_l22) hb13_r22 (by simp) (AllReadyH.cons (o := { dst := some 131, op := Op.call { callee := Callee.value (Operand.func 22), args := #[Operand.tmp 129, Operand.tmp 130], argTypes := #[22, 22] }, type := 4, pos := "law.go:48", after := #[{ on := 20, ground := Ground.data }, { on := 21, ground := Ground.data }, { on := 19, ground := Ground.chain }, { on := 19, ground := Ground.guard }], guard := some (19, true) }) hb13_g22 (fun K hK => ?_) AllReadyH.nil)
    rw [if_pos (by rfl)]
    go_simp
    (go_at_call 22; refine (same_t _ _ A _ HQ6.out.ra HQ6.out.rx HAL.out).mono ?_; rintro e7 w7 ⟨rfl, n7, hw7⟩; have HQ7 : Hid (BQ w g gp gr ⟨ty, rq, rs, sq⟩ ⟨Ht, Hq, Hr, Hs⟩ p q a x T A w7) := Lib.hid (by rw [hw7]; exact HQ6.out.drewN n7); clear hw7)
    go_wp2_with fail
    refine hK.out _ _ (BQ.s HQ7.out) (fun hHeld => ?_)
    clear hK K
    try simp only [Act.put, List.setIfInBounds_toArray, List.set_cons_zero, List.set_cons_succ]
    refine wpAnyH_take (i := 23) (oi := { dst := some 132, op := Op.pick (Operand.tmp 128) (Operand.tmp 131) (Operand.const (Value.bool false)), type := 4, pos := "law.go:48", after := #[{ on := 19, ground := Ground.data }, { on := 22, ground := Ground.data }], guard := none }) (v := ?_) (listed := hb13_l23) hb13_g23 hb13_nosel hb13_f23 hb13_r23 (fun _ _ _ h => h) (Or.inl ⟨by rfl, ?_⟩) (by assumption) ?_
    rotate_left
    focus (intro w hSw; (try dsimp only at hSw); go_simp; try (with_reducible rfl))
    try simp only [Act.put, List.setIfInBounds_toArray, List.set_cons_zero, List.set_cons_succ]
    refine wpAnyH_take (i := 24) (oi := { dst := some 133, op := Op.move (Operand.tmp 132), type := 4, pos := "law.go:48", after := #[{ on := 23, ground := Ground.data }, { on := 22, ground := Ground.chain }], guard := none }) (v := ?_) (listed := hb13_l24) hb13_g24 hb13_nosel hb13_f24 hb13_r24 (fun _ _ _ h => h) (Or.inl ⟨by rfl, ?_⟩) (by assumption) ?_
    rotate_left
    focus (intro w hSw; (try dsimp only at hSw); go_simp; try (with_reducible rfl))
    try simp only [Act.put, List.setIfInBounds_toArray, List.set_cons_zero, List.set_cons_succ]
    refine wpAnyH_take (i := 25) (oi := { dst := some 134, op := Op.move (Operand.tmp 2), type := 26, pos := "law.go:48", after := #[{ on := 24, ground := Ground.guard }], guard := some (24, true) }) (v := ?_) (listed := hb13_l25) hb13_g25 hb13_nosel hb13_f25 hb13_r25 (fun _ _ _ h => h) (Or.inl ⟨by rfl, ?_⟩) (by assumption) ?_
    rotate_left
    focus (intro w hSw; (try dsimp only at hSw); go_simp; try (with_reducible rfl))
    try simp only [Act.put, List.setIfInBounds_toArray, List.set_cons_zero, List.set_cons_succ]
    refine wpAnyH_take (i := 27) (oi := { dst := some 136, op := Op.move (Operand.tmp 2), type := 26, pos := "law.go:48", after := #[{ on := 24, ground := Ground.guard }], guard := some (24, true) }) (v := ?_) (listed := hb13_l26) hb13_g27 hb13_nosel hb13_f26 hb13_r26 (fun _ _ _ h => h) (Or.inl ⟨by rfl, ?_⟩) (by assumption) ?_
    rotate_left
    focus (intro w hSw; (try dsimp only at hSw); go_simp; try (with_reducible rfl))
    try simp only [Act.put, List.setIfInBounds_toArray, List.set_cons_zero, List.set_cons_succ]
    refine wpAnyH_ready (rs := [26]) (listed := hb13_l27) hb13_r27 (by simp) (AllReadyH.cons (o := { dst := some 135, op := Op.call { callee := Callee.value (Operand.func 23), args := #[Operand.tmp 134], argTypes := #[26] }, type := 5, pos := "law.go:48", after := #[{ on := 25, ground := Ground.data }, { on := 24, ground := Ground.chain }, { on := 24, ground := Ground.guard }], guard := some (24, true) }) hb13_g26 (fun K hK => ?_) AllReadyH.nil)
    rw [if_pos (by rfl)]
    go_simp
    (go_at_call 23; refine (hcode_any e _).mono ?_; rintro e8 w8 ⟨rfl, rfl⟩)
    go_wp2_with fail
    refine hK.out _ _ (BQ.s HQ7.out) (fun hHeld => ?_)
    clear hK K
    try simp only [Act.put, List.setIfInBounds_toArray, List.set_cons_zero, List.set_cons_succ]
    refine wpAnyH_ready (rs := [28]) (listed := hb13_l28) hb13_r28 (by simp) (AllReadyH.cons (o := { dst := some 137, op := Op.call { callee := Callee.value (Operand.func 24), args := #[Operand.tmp 136], argTypes := #[3] }, type := 5, pos := "law.go:48", after := #[{ on := 27, ground := Ground.data }, { on := 26, ground := Ground.chain }, { on := 24, ground := Ground.guard }], guard := some (24, true) }) hb13_g28 (fun K hK => ?_) AllReadyH.nil)
    rw [if_pos (by rfl)]
    go_simp
    (go_at_call 24; refine (rcode_any e _).mono ?_; rintro e9 w9 ⟨rfl, rfl⟩)
    go_wp2_with fail
    refine hK.out _ _ (BQ.s HQ7.out) (fun hHeld => ?_)
    clear hK K
    try simp only [Act.put, List.setIfInBounds_toArray, List.set_cons_zero, List.set_cons_succ]
    refine wpAnyH_take (i := 29) (oi := { dst := some 138, op := Op.binOp BinOp.eql 5 (Operand.tmp 135) (Operand.tmp 137) 5, type := 4, pos := "law.go:48", after := #[{ on := 26, ground := Ground.data }, { on := 28, ground := Ground.data }, { on := 24, ground := Ground.guard }], guard := some (24, true) }) (v := ?_) (listed := hb13_l29) hb13_g29 hb13_nosel hb13_f29 hb13_r29 (fun _ _ _ h => h) (Or.inl ⟨by rfl, ?_⟩) (by assumption) ?_
    rotate_left
    focus (intro w hSw; (try dsimp only at hSw); go_simp; try (with_reducible rfl))
    try simp only [Act.put, List.setIfInBounds_toArray, List.set_cons_zero, List.set_cons_succ]
    refine wpAnyH_take (i := 30) (oi := { dst := some 139, op := Op.pick (Operand.tmp 133) (Operand.tmp 138) (Operand.const (Value.bool false)), type := 4, pos := "law.go:48", after := #[{ on := 24, ground := Ground.data }, { on := 29, ground := Ground.data }], guard := none }) (v := ?_) (listed := hb13_l30) hb13_g30 hb13_nosel hb13_f30 hb13_r30 (fun _ _ _ h => h) (Or.inl ⟨by rfl, ?_⟩) (by assumption) ?_
    rotate_left
    focus (intro w hSw; (try dsimp only at hSw); go_simp; try (with_reducible rfl))
    try simp only [Act.put, List.setIfInBounds_toArray, List.set_cons_zero, List.set_cons_succ]
    refine wpAnyH_take (i := 31) (oi := { dst := some 140, op := Op.move (Operand.tmp 139), type := 4, pos := "law.go:48", after := #[{ on := 30, ground := Ground.data }, { on := 28, ground := Ground.chain }], guard := none }) (v := ?_) (listed := hb13_l31) hb13_g31 hb13_nosel hb13_f31 hb13_r31 (fun _ _ _ h => h) (Or.inl ⟨by rfl, ?_⟩) (by assumption) ?_
    rotate_left
    focus (intro w hSw; (try dsimp only at hSw); go_simp; try (with_reducible rfl))
    try simp only [Act.put, List.setIfInBounds_toArray, List.set_cons_zero, List.set_cons_succ]
    refine wpAnyH_take (i := 32) (oi := { dst := some 141, op := Op.load 25 (Operand.tmp 5), type := 25, pos := "law.go:48", after := #[{ on := 31, ground := Ground.guard }], guard := some (31, true) }) (v := ?_) (listed := hb13_l32) hb13_g32 hb13_nosel hb13_f32 hb13_r32 (fun _ _ _ h => h) (Or.inl ⟨by rfl, ?_⟩) (by assumption) ?_
    rotate_left
    focus (intro w hSw; (try dsimp only at hSw); go_simp; try (with_reducible rfl))
    try simp only [Act.put, List.setIfInBounds_toArray, List.set_cons_zero, List.set_cons_succ]
    refine wpAnyH_take (i := 33) (oi := { dst := some 142, op := Op.move (Operand.tmp 3), type := 22, pos := "law.go:48", after := #[{ on := 31, ground := Ground.guard }], guard := some (31, true) }) (v := ?_) (listed := hb13_l33) hb13_g33 hb13_nosel hb13_f33 hb13_r33 (fun _ _ _ h => h) (Or.inl ⟨by rfl, ?_⟩) (by assumption) ?_
    rotate_left
    focus (intro w hSw; (try dsimp only at hSw); go_simp; try (with_reducible rfl))
    try simp only [Act.put, List.setIfInBounds_toArray, List.set_cons_zero, List.set_cons_succ]
    refine wpAnyH_take (i := 35) (oi := { dst := some 144, op := Op.load 25 (Operand.tmp 5), type := 25, pos := "law.go:48", after := #[{ on := 31, ground := Ground.guard }], guard := some (31, true) }) (v := ?_) (listed := hb13_l34) hb13_g35 hb13_nosel hb13_f34 hb13_r34 (fun _ _ _ h => h) (Or.inl ⟨by rfl, ?_⟩) (by assumption) ?_
    rotate_left
    focus (intro w hSw; (try dsimp only at hSw); go_simp; try (with_reducible rfl))
    try simp only [Act.put, List.setIfInBounds_toArray, List.set_cons_zero, List.set_cons_succ]
    refine wpAnyH_take (i := 37) (oi := { dst := some 146, op := Op.move (Operand.tmp 3), type := 22, pos := "law.go:48", after := #[{ on := 31, ground := Ground.guard }], guard := some (31, true) }) (v := ?_) (listed := hb13_l35) hb13_g37 hb13_nosel hb13_f35 hb13_r35 (fun _ _ _ h => h) (Or.inl ⟨by rfl, ?_⟩) (by assumption) ?_
    rotate_left
    focus (intro w hSw; (try dsimp only at hSw); go_simp; try (with_reducible rfl))
    try simp only [Act.put, List.setIfInBounds_toArray, List.set_cons_zero, List.set_cons_succ]
    refine wpAnyH_ready (rs := [34]) (listed := hb13_l36) hb13_r36 (by simp) (AllReadyH.cons (o := { dst := some 143, op := Op.call { callee := Callee.value (Operand.func 25), args := #[Operand.tmp 141, Operand.tmp 142], argTypes := #[25, 22] }, type := 22, pos := "law.go:48", after := #[{ on := 32, ground := Ground.data }, { on := 33, ground := Ground.data }, { on := 31, ground := Ground.chain }, { on := 31, ground := Ground.guard }], guard := some (31, true) }) hb13_g34 (fun K hK => ?_) AllReadyH.nil)
    rw [if_pos (by rfl)]
    go_simp
    (go_at_call 25; refine (hwrite_any ⟨ty, rq, rs, sq⟩ HKO.out _ M _ (HWR.out _ HQ7.out.old) (cut_nil HCM.out) HML.out).mono ?_; rintro ea wa ⟨pa, rfl, ha, ba⟩; have HA := Lib.hid ha.row; have HQA := Lib.hid (HQ7.out.below ba); clear ha ba)
    go_wp2_with fail
    refine hK.out _ _ (BQ.s HQA.out) (fun hHeld => ?_)
    clear hK K
    try simp only [Act.put, List.setIfInBounds_toArray, List.set_cons_zero, List.set_cons_succ]
    refine wpAnyH_ready (rs := [36]) (listed := hb13_l37) hb13_r37 (by simp) (AllReadyH.cons (o := { dst := some 145, op := Op.call { callee := Callee.value (Operand.func 20), args := #[Operand.tmp 144], argTypes := #[25] }, type := 31, pos := "law.go:48", after := #[{ on := 35, ground := Ground.data }, { on := 34, ground := Ground.chain }, { on := 31, ground := Ground.guard }], guard := some (31, true) }) hb13_g36 (fun K hK => ?_) AllReadyH.nil)
    rw [if_pos (by rfl)]
    go_simp
    (go_at_call 20; refine (has_any ⟨ty, rq, rs, sq⟩ HKO.out _).mono ?_; rintro eb wb ⟨rfl, bb⟩; simp only [rhA]; have HQB := Lib.hid (HQA.out.below bb); have HB := Lib.hid (HA.out.below bb); clear bb)
    go_wp2_with fail
    refine hK.out _ _ (BQ.s HQB.out) (fun hHeld => ?_)
    clear hK K
    try simp only [Act.put, List.setIfInBounds_toArray, List.set_cons_zero, List.set_cons_succ]
    refine wpAnyH_ready (rs := [38]) (listed := hb13_l38) hb13_r38 (by simp) (AllReadyH.cons (o := { dst := some 147, op := Op.call { callee := Callee.value (Operand.func 26), args := #[Operand.tmp 145, Operand.tmp 146], argTypes := #[31, 22] }, type := 22, pos := "law.go:48", after := #[{ on := 36, ground := Ground.data }, { on := 37, ground := Ground.data }, { on := 36, ground := Ground.chain }, { on := 31, ground := Ground.guard }], guard := some (31, true) }) hb13_g38 (fun K hK => ?_) AllReadyH.nil)
    rw [if_pos (by rfl)]
    go_simp
    (go_at_call 26; refine (rwrite_any ⟨ty, rq, rs, sq⟩ HKO.out _ M _ (HWR.out _ HQB.out.old) HML.out).mono ?_; rintro ec wc ⟨pc, rfl, hc, bc⟩; have HC := Lib.hid hc.row; have HQC := Lib.hid (HQB.out.below bc); have HBC := Lib.hid (HB.out.below bc); clear hc bc)
    go_wp2_with fail
    refine hK.out _ _ (BQ.s HQC.out) (fun hHeld => ?_)
    clear hK K
    try simp only [Act.put, List.setIfInBounds_toArray, List.set_cons_zero, List.set_cons_succ]
    refine wpAnyH_ready (rs := [39]) (listed := hb13_l39) hb13_r39 (by simp) (AllReadyH.cons (o := { dst := some 148, op := Op.call { callee := Callee.value (Operand.func 22), args := #[Operand.tmp 143, Operand.tmp 147], argTypes := #[22, 22] }, type := 4, pos := "law.go:48", after := #[{ on := 34, ground := Ground.data }, { on := 38, ground := Ground.data }, { on := 38, ground := Ground.chain }, { on := 31, ground := Ground.guard }], guard := some (31, true) }) hb13_g39 (fun K hK => ?_) AllReadyH.nil)
    rw [if_pos (by rfl)]
    go_simp
    (go_at_call 22; refine (same_t _ _ (hdL ⟨ty, rq, rs, sq⟩ ++ M) _ HBC.out HC.out HHL.out).mono ?_; rintro ed wd ⟨rfl, nd, hwd⟩; have HQD : Hid (BQ w g gp gr ⟨ty, rq, rs, sq⟩ ⟨Ht, Hq, Hr, Hs⟩ p q a x T A wd) := Lib.hid (by rw [hwd]; exact HQC.out.drewN nd); clear hwd)
    go_wp2_with fail
    refine hK.out _ _ (BQ.s HQD.out) (fun hHeld => ?_)
    clear hK K
    try simp only [Act.put, List.setIfInBounds_toArray, List.set_cons_zero, List.set_cons_succ]
    refine wpAnyH_take (i := 40) (oi := { dst := some 149, op := Op.pick (Operand.tmp 140) (Operand.tmp 148) (Operand.const (Value.bool false)), type := 4, pos := "law.go:48", after := #[{ on := 31, ground := Ground.data }, { on := 39, ground := Ground.data }], guard := none }) (v := ?_) (listed := hb13_l40) hb13_g40 hb13_nosel hb13_f40 hb13_r40 (fun _ _ _ h => h) (Or.inl ⟨by rfl, ?_⟩) (by assumption) ?_
    rotate_left
    focus (intro w hSw; (try dsimp only at hSw); go_simp; try (with_reducible rfl))
    try simp only [Act.put, List.setIfInBounds_toArray, List.set_cons_zero, List.set_cons_succ]
    refine wpAnyH_take (i := 41) (oi := { dst := some 8, op := Op.assign (Operand.tmp 149), type := 4, pos := "law.go:48", after := #[{ on := 40, ground := Ground.data }, { on := 39, ground := Ground.chain }, { on := 0, ground := Ground.phase }, { on := 1, ground := Ground.phase }, { on := 2, ground := Ground.phase }, { on := 3, ground := Ground.phase }, { on := 4, ground := Ground.phase }, { on := 5, ground := Ground.phase }, { on := 6, ground := Ground.phase }, { on := 7, ground := Ground.phase }, { on := 8, ground := Ground.phase }, { on := 9, ground := Ground.phase }, { on := 10, ground := Ground.phase }, { on := 11, ground := Ground.phase }, { on := 12, ground := Ground.phase }, { on := 13, ground := Ground.phase }, { on := 14, ground := Ground.phase }, { on := 15, ground := Ground.phase }, { on := 16, ground := Ground.phase }, { on := 17, ground := Ground.phase }, { on := 18, ground := Ground.phase }, { on := 19, ground := Ground.phase }, { on := 20, ground := Ground.phase }, { on := 21, ground := Ground.phase }, { on := 22, ground := Ground.phase }, { on := 23, ground := Ground.phase }, { on := 24, ground := Ground.phase }, { on := 25, ground := Ground.phase }, { on := 26, ground := Ground.phase }, { on := 27, ground := Ground.phase }, { on := 28, ground := Ground.phase }, { on := 29, ground := Ground.phase }, { on := 30, ground := Ground.phase }, { on := 31, ground := Ground.phase }, { on := 32, ground := Ground.phase }, { on := 33, ground := Ground.phase }, { on := 34, ground := Ground.phase }, { on := 35, ground := Ground.phase }, { on := 36, ground := Ground.phase }, { on := 37, ground := Ground.phase }, { on := 38, ground := Ground.phase }, { on := 39, ground := Ground.phase }, { on := 40, ground := Ground.phase }], guard := none }) (v := ?_) (listed := hb13_l41) hb13_g41 hb13_nosel hb13_f41 hb13_r41 (fun _ _ _ h => h) (Or.inl ⟨by rfl, ?_⟩) (by assumption) ?_
    rotate_left
    focus (intro w hSw; (try dsimp only at hSw); go_simp; try (with_reducible rfl))
    try simp only [Act.put, List.setIfInBounds_toArray, List.set_cons_zero, List.set_cons_succ]
    refine wpAnyH_done (listed := hb13_l42) hb13_end ?_ _
    go_wp2
    go_ret
    exact ⟨rfl, HQD.out.old⟩
end Go.Proofs.Ytfijcdidcnfadaa.Head
