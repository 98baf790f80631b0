/-
  PlaneFills: the law's walk.
-/
import Derived.Test.YtkkcdahfiegopaaDoorPlQ
import Derived.Test.YtkkcdahfiegopaaDoorPlK
import Derived.Test.YtkkcdahfiegopaaDoorPlM
import Derived.Test.YtkkcdahfiegopaaDoorMaskA
import Derived.Deep.DeepCutAuto
import Derived.Deep.CutRange
namespace Go.Proofs.YtkkcdahfiegopaaDoor.Pl
open Go.RowKit Go.Shelf Base
set_option linter.unusedVariables false
set_option linter.unusedSimpArgs false

theorem FQ.drew {s : Nat} {w W : World} {x : Cl} {r c : Int} {b g b2 g2 : Nat} {L M : List Cl} (h : FQ s w x r c b g b2 g2 L M W) : FQ s w x r c b g b2 g2 L M W.drew := ⟨h.bx, h.p.drew, h.q.drew, below_drew h.old, h.ne⟩
theorem FQ.s5 {s : Nat} {w W : World} {x : Cl} {r c : Int} {b g b2 g2 : Nat} {L M : List Cl} (h : FQ s w x r c b g b2 g2 L M W) : W.cell? ⟨s + 1, 0, none⟩ = some (.int .u8 x.b) ∧ W.cell? ⟨s + 1, 1, none⟩ = some (.bool x.ge) ∧ W.cell? ⟨s + 1, 2, none⟩ = some (.bool x.st) ∧ W.cell? ⟨s + 1, 3, none⟩ = some (.int .u8 x.li) ∧ W.cell? ⟨s + 1, 4, none⟩ = some (.int .u8 x.co) ∧ FQ s w x r c b g b2 g2 L M W := by
  obtain ⟨y0, y1, y2, y3, y4⟩ := cell5 h.bx
  exact ⟨y0, y1, y2, y3, y4, h⟩
theorem FQ.of_s {s : Nat} {w W : World} {x : Cl} {r c : Int} {b g b2 g2 : Nat} {L M : List Cl} (h : W.cell? ⟨s + 1, 0, none⟩ = some (.int .u8 x.b) ∧ W.cell? ⟨s + 1, 1, none⟩ = some (.bool x.ge) ∧ W.cell? ⟨s + 1, 2, none⟩ = some (.bool x.st) ∧ W.cell? ⟨s + 1, 3, none⟩ = some (.int .u8 x.li) ∧ W.cell? ⟨s + 1, 4, none⟩ = some (.int .u8 x.co) ∧ FQ s w x r c b g b2 g2 L M W) : FQ s w x r c b g b2 g2 L M W := h.2.2.2.2.2
set_option maxRecDepth 100000 in
set_option maxHeartbeats 8000000 in
theorem fills_law (r c : Int) (v : Value) (L0 : List Cl) (f0 t0 : Int) (x : Cl) (w : World) (hv : ClsAt w v L0) (hm : L0.length ≤ maxLen) (hG : Glob w) :
    Calls Tryd.prog 7 #[.agg #[.int .i64 r, .int .i64 c], v, .int .i64 f0, .int .i64 t0, x.val] w fun e W => e = .returned (.bool true) ∧ Below w.heap.size w W := by
  obtain ⟨s, hs⟩ : ∃ s, s = w.heap.size := ⟨_, rfl⟩
  have HS := Lib.hid hs
  obtain ⟨W0, hW0⟩ : ∃ W0, W0 = (w.alloc (.cells #[.int .i64 r, .int .i64 c] 23)).alloc (.cells #[.int .u8 x.b, .bool x.ge, .bool x.st, .int .u8 x.li, .int .u8 x.co] 36) := ⟨_, rfl⟩
  obtain ⟨h0, h1, h2⟩ := boxes (w' := W0) (by rw [hW0]; exact Below.refl _ _)
  have hz0 : W0.heap.size = s + 2 := by rw [hW0, World.size_alloc, World.size_alloc, hs]
  have hv0 := hv.below h2
  have HAL := Lib.hid (pl_alive find_k W0 (hG.below h2))
  rw [← hs] at h0 h1 h2
  have HB0 := Lib.hid h0
  have HB1 := Lib.hid h1
  have HB2 := Lib.hid h2
  have HV := Lib.hid hv0
  have HML := Lib.hid hm
  have HW0 := Lib.hid hW0.symm
  clear h0 h1 h2 hW0 hs hv hv0 hm hG
  go_enter Tryd.func7, Tryd.ntmps7
  go_wp2_with fail
  rw [HW0.out, ← HS.out]
  refine HAL.out.mono ?_
  rintro e w1 ⟨rfl, hb1⟩
  have c1 := (hb1.block s (by omega)).trans HB0.out
  have HX := Lib.hid ((hb1.block (s + 1) (by omega)).trans HB1.out)
  have HO := Lib.hid (HB2.out.trans (hb1.mono (by omega)))
  have HMD := Lib.hid (made_any r c v L0 w1 (HV.out.below hb1) HML.out)
  obtain ⟨q0, q1⟩ := blk2 c1
  clear c1 hb1 HB0 HB1 HB2 HW0 HAL HV hz0
  go_wp2_with fail
  refine HMD.out.mono ?_
  unfold MadeP xV
  rintro e w2 (⟨hno, pv, r', c', a', l', k', rfl, hb2⟩ | ⟨b, g, gx, n, hcn, hn1, hn2, rfl, P, R, lb, lg, lbx, lgx, hb2⟩)
  · have HO2 := Lib.hid (HO.out.trans (hb2.mono (by have := lt_of_block HX.out; omega)))
    clear hno hb2 HMD HO
    have hlt : s ≤ w2.heap.size := by have := HO2.out.size; have := HS.out; omega
    go_wp2
    go_ret
    rw [← HS.out]
    exact ⟨rfl, HO2.out.alloc hlt _⟩
  · have hlt := lt_of_block HX.out
    have HX2 := Lib.hid ((hb2.block _ hlt).trans HX.out)
    have HO2 := Lib.hid (HO.out.trans (hb2.mono (by omega)))
    have HP2 := Lib.hid P
    have hl2 : s + 1 < w2.heap.size := lt_of_block HX2.out
    clear hb2 R P HMD HO HX lbx lgx hlt
    go_wp2_with fail
    have HP3 := Lib.hid (HP2.out.alloc (.cells #[.int .i64 r, .int .i64 c, .slice (some ⟨gx, 0, none⟩) n n, .int .i64 0] 32))
    have HO3 := Lib.hid (HO2.out.alloc (by omega) (.cells #[.int .i64 r, .int .i64 c, .slice (some ⟨gx, 0, none⟩) n n, .int .i64 0] 32))
    have HX3 := Lib.hid (((below_alloc w2 (.cells #[.int .i64 r, .int .i64 c, .slice (some ⟨gx, 0, none⟩) n n, .int .i64 0] 32)).block (s + 1) hl2).trans HX2.out)
    obtain ⟨W3, hW3⟩ : ∃ W3, W3 = w2.alloc (.cells #[.int .i64 r, .int .i64 c, .slice (some ⟨gx, 0, none⟩) n n, .int .i64 0] 32) := ⟨_, rfl⟩
    rw [← hW3] at HP3 HO3 HX3 ⊢
    clear hW3 HX2 HO2 HP2 hl2
    obtain ⟨L, hL⟩ : ∃ L, L = mL n L0 L0.length := ⟨_, rfl⟩
    have hLl : L.length = n := by rw [hL, mL_length]
    rw [← hL] at HP3
    clear hL
    obtain ⟨jf, hjf, hjf1, _⟩ := Mask.mask_nat f0 4095 12 4096 (by decide) (by decide) (by decide)
    obtain ⟨jt, hjt, hjt1, _⟩ := Mask.mask_nat t0 4095 12 4096 (by decide) (by decide) (by decide)
    obtain ⟨f, hf⟩ : ∃ f, f = (bits .and .i64 f0 4095).tmod n := ⟨_, rfl⟩
    obtain ⟨u, hu⟩ : ∃ u, u = (bits .and .i64 t0 4095).tmod n := ⟨_, rfl⟩
    have hfb : 0 ≤ f ∧ f < n := by
      rw [hf, show bits .and .i64 f0 4095 = (jf : Int) from hjf]
      exact ⟨Int.tmod_nonneg _ (by omega), Int.tmod_lt_of_pos _ (by omega)⟩
    have hub : 0 ≤ u ∧ u < n := by
      rw [hu, show bits .and .i64 t0 4095 = (jt : Int) from hjt]
      exact ⟨Int.tmod_nonneg _ (by omega), Int.tmod_lt_of_pos _ (by omega)⟩
    have HF := Lib.hid hf.symm
    have HU := Lib.hid hu.symm
    clear hf hu hjf hjt hjf1 hjt1
    have hz : ((n : Int) == 0) = false := by simp; omega
    have hlen := len_any HP3.out.drew
    rw [hLl] at hlen
    have HLN := Lib.hid hlen
    have HLL := Lib.hid hLl
    clear hlen hLl
    go_cut [2, 3] (fun v2 v3 wx => v2 = .int .i64 f ∧ v3 = .int .i64 u ∧ wx = W3.drew)
    case first =>
      go_region_with (go_at_call 20; (with_reducible refine HLN.out.mono ?_); rintro e w4 ⟨rfl, rfl⟩)
      all_goals go_wp2
      all_goals go_meet
      all_goals exact ⟨by rw [← HF.out], by rw [← HU.out], rfl⟩
    case rest =>
      obtain ⟨rfl, rfl, rfl⟩ := hcut
      go_wp2_with fail
      refine (clone_any HP3.out.drew).mono ?_
      rintro e w5 ⟨b2, g2, rfl, Q5, hb5, lb2, lg2⟩
      have hq1 := HP3.out.lt
      have hq2 := HP3.out.ltg
      have hx3 := lt_of_block HX3.out
      have HQ := Lib.hid (show FQ s w x r c b g b2 g2 L L w5 from ⟨(hb5.block _ hx3).trans HX3.out, HP3.out.drew.below hb5, Q5, (below_drew HO3.out).trans (hb5.mono (by show s ≤ W3.heap.size; omega)), by refine ⟨?_, ?_, ?_⟩ <;> (have : W3.heap.size ≤ g2 := lg2) <;> omega⟩)
      have hfill := fill_any Q5 f u x
      rw [HLL.out, betw_len n f u (inn_of ⟨hfb.1, hfb.2, hub.1, hub.2⟩)] at hfill
      have HFI := Lib.hid hfill
      obtain ⟨y0, y1, y2, y3, y4⟩ := cell5 HQ.out.bx
      obtain ⟨m1, hm1⟩ : ∃ m1, m1 = many n f u := ⟨_, rfl⟩
      rw [← hm1] at HFI
      have HM1 := Lib.hid hm1
      obtain ⟨M, hM⟩ : ∃ M, M = fillL L (betw n f u) x := ⟨_, rfl⟩
      rw [← hM] at HFI
      have HMM := Lib.hid hM
      clear hM hm1 hfill Q5 hb5 lb2 lg2 hq1 hq2 hx3 HLN HX3 HO3 HP3
      go_wp2_with fail
      refine HFI.out.mono ?_
      rintro e w6 ⟨rfl, Q6, t6⟩
      have HQ6 := Lib.hid (HQ.out.turn Q6 t6)
      clear Q6 t6 HFI HQ y0 y1 y2 y3 y4
      have hlen := len_any HQ6.out.p
      rw [HLL.out] at hlen
      go_wp2_with (go_at_call 20; (with_reducible refine hlen.mono ?_); rintro e w7 ⟨rfl, rfl⟩)
      clear hlen
      go_loopw [50] (fun p wr => ∃ k : Nat, k ≤ n ∧ p = .int .i64 k ∧ FQ s w x r c b g b2 g2 L M wr) (fun p _ => n - (intOf p).toNat)
      case atStart => exact ⟨0, Nat.zero_le _, rfl, HQ6.out⟩
      case round =>
        obtain ⟨k, hk, rfl, hfq⟩ := hrel
        have HQ7 := Lib.hid hfq
        clear hfq HQ6
        by_cases hkn : k < n
        · have hki : (k : Int) < (n : Int) := by omega
          have hw1 : wrap64 ((k : Int) - f) = (k : Int) - f := IntWalk.wrap64_in _ (by omega)
          have hw2 : wrap64 ((k : Int) - f + (n : Int)) = (k : Int) - f + n := IntWalk.wrap64_in _ (by omega)
          have htm : ((k : Int) - f + n).tmod n = ((k : Int) - f) % n := by rw [Int.tmod_eq_emod_of_nonneg (by omega), Int.add_emod_right]
          have hat := atL_fill (k : Int) x (betw n f u) L (by rw [HLL.out]; exact betw_in n f u (by omega))
          rw [← HMM.out] at hat
          have hmem := mem_betw n f u k (inn_of ⟨hfb.1, hfb.2, hub.1, hub.2⟩) (by omega) hki
          rw [← HM1.out, Int.add_emod_right] at hmem
          have hlenp : Hid (∀ X, FQ s w x r c b g b2 g2 L M X → Calls Tryd.prog 20 #[.pointer (some ⟨b, 0, none⟩)] X fun e X' => e = .returned (.int .i64 (n : Nat)) ∧ X = X') := by
            intro X hX
            have := len_any hX.p
            rwa [HLL.out] at this
          by_cases hlt : ((k : Int) - f) % n < m1
          · rw [if_pos (hmem.2 hlt)] at hat
            have HAT := Lib.hid hat.symm
            have hne2 := fun w => run_neq_cl w x x
            simp only [decide_true, Bool.not_true] at hne2
            clear hat hmem
            go_wp2_with (go_at_call 20; (with_reducible refine (hlenp.out _ HQ7.out).mono ?_); rintro e w7 ⟨rfl, rfl⟩)
            go_cut [84] (fun v wx => v = .bool false ∧ FQ s w x r c b g b2 g2 L M wx)
            case first =>
              refine wp_region_held_drew (S := fun W => W.cell? ⟨s + 1, 0, none⟩ = some (.int .u8 x.b) ∧ W.cell? ⟨s + 1, 1, none⟩ = some (.bool x.ge) ∧ W.cell? ⟨s + 1, 2, none⟩ = some (.bool x.st) ∧ W.cell? ⟨s + 1, 3, none⟩ = some (.int .u8 x.li) ∧ W.cell? ⟨s + 1, 4, none⟩ = some (.int .u8 x.co) ∧ FQ s w x r c b g b2 g2 L M W) (by kernel_rfl) (FQ.s5 HQ7.out.drew) (fun hHeld => ?_)
              refine wpAnyH_take (i := 0) (oi := { dst := some 64, op := Op.move (Operand.tmp 17), type := 4, pos := "law.go:209", after := #[], guard := none }) (v := ?_) rfl (by kernel_rfl) (by kernel_rfl) (by kernel_rfl) (fun _ _ _ h => h) (Or.inl ⟨by rfl, ?_⟩) (by assumption) ?_
              rotate_left
              focus (intro w hSw; (try dsimp only at hSw); go_simp; try (with_reducible rfl))
              try simp only [Act.put, List.setIfInBounds_toArray, List.set_cons_zero, List.set_cons_succ]
              refine wpAnyH_take (i := 1) (oi := { dst := some 65, op := Op.move (Operand.tmp 64), type := 4, pos := "law.go:209", after := #[{ on := 0, ground := Ground.data }], guard := none }) (v := ?_) rfl (by kernel_rfl) (by kernel_rfl) (by kernel_rfl) (fun _ _ _ h => h) (Or.inl ⟨by rfl, ?_⟩) (by assumption) ?_
              rotate_left
              focus (intro w hSw; (try dsimp only at hSw); go_simp; try (with_reducible rfl))
              try simp only [Act.put, List.setIfInBounds_toArray, List.set_cons_zero, List.set_cons_succ]
              refine wpAnyH_take (i := 2) (oi := { dst := some 66, op := Op.move (Operand.tmp 14), type := 26, pos := "law.go:209", after := #[{ on := 1, ground := Ground.guard }], guard := some (1, true) }) (v := ?_) rfl (by kernel_rfl) (by kernel_rfl) (by kernel_rfl) (fun _ _ _ h => h) (Or.inl ⟨by rfl, ?_⟩) (by assumption) ?_
              rotate_left
              focus (intro w hSw; (try dsimp only at hSw); go_simp; try (with_reducible rfl))
              try simp only [Act.put, List.setIfInBounds_toArray, List.set_cons_zero, List.set_cons_succ]
              refine wpAnyH_take (i := 3) (oi := { dst := some 67, op := Op.move (Operand.tmp 16), type := 3, pos := "law.go:209", after := #[{ on := 1, ground := Ground.guard }], guard := some (1, true) }) (v := ?_) rfl (by kernel_rfl) (by kernel_rfl) (by kernel_rfl) (fun _ _ _ h => h) (Or.inl ⟨by rfl, ?_⟩) (by assumption) ?_
              rotate_left
              focus (intro w hSw; (try dsimp only at hSw); go_simp; try (with_reducible rfl))
              try simp only [Act.put, List.setIfInBounds_toArray, List.set_cons_zero, List.set_cons_succ]
              refine wpAnyH_take (i := 5) (oi := { dst := some 69, op := Op.load 36 (Operand.tmp 9), type := 36, pos := "law.go:209", after := #[{ on := 1, ground := Ground.guard }], guard := some (1, true) }) (v := ?_) rfl (by kernel_rfl) (by kernel_rfl) (by kernel_rfl) (fun _ _ _ h => h) (Or.inl ⟨by rfl, ?_⟩) (by assumption) ?_
              rotate_left
              focus (intro w hSw; (try dsimp only at hSw); go_simp; try (with_reducible rfl))
              try simp only [Act.put, List.setIfInBounds_toArray, List.set_cons_zero, List.set_cons_succ]
              refine wpAnyH_ready (rs := [4]) (by kernel_rfl) (by simp) (AllReadyH.cons (o := { dst := some 68, op := Op.call { callee := Callee.value (Operand.func 19), args := #[Operand.tmp 66, Operand.tmp 67], argTypes := #[26, 3] }, type := 36, pos := "law.go:209", after := #[{ on := 2, ground := Ground.data }, { on := 3, ground := Ground.data }, { on := 1, ground := Ground.chain }, { on := 1, ground := Ground.guard }], guard := some (1, true) }) rfl (fun K hK => ?_) AllReadyH.nil)
              go_simp
              go_at_call 19
              refine (at_is (PlAt.drew (FQ.q HQ7.out)) HAT.out).mono ?_
              rintro e w8 ⟨rfl, hb8⟩
              have HQ8 := Lib.hid (FQ.below HQ7.out.drew hb8)
              clear hb8
              go_wp2_with fail
              refine hK.out _ _ (FQ.s5 HQ8.out) (fun hHeld => ?_)
              clear hK K
              try simp only [Act.put, List.setIfInBounds_toArray, List.set_cons_zero, List.set_cons_succ]
              refine wpAnyH_take (i := 6) (oi := { dst := some 70, op := Op.binOp BinOp.neq 36 (Operand.tmp 68) (Operand.tmp 69) 36, type := 4, pos := "law.go:209", after := #[{ on := 4, ground := Ground.data }, { on := 5, ground := Ground.data }, { on := 1, ground := Ground.guard }], guard := some (1, true) }) (v := ?_) rfl (by kernel_rfl) (by kernel_rfl) (by kernel_rfl) (fun _ _ _ h => h) (Or.inl ⟨by rfl, ?_⟩) (by assumption) ?_
              rotate_left
              focus (intro w hSw; (try dsimp only at hSw); go_simp; try (with_reducible rfl))
              try simp only [Act.put, List.setIfInBounds_toArray, List.set_cons_zero, List.set_cons_succ]
              refine wpAnyH_take (i := 7) (oi := { dst := some 71, op := Op.pick (Operand.tmp 65) (Operand.tmp 70) (Operand.const (Value.bool false)), type := 4, pos := "law.go:209", after := #[{ on := 1, ground := Ground.data }, { on := 6, ground := Ground.data }], guard := none }) (v := ?_) rfl (by kernel_rfl) (by kernel_rfl) (by kernel_rfl) (fun _ _ _ h => h) (Or.inl ⟨by rfl, ?_⟩) (by assumption) ?_
              rotate_left
              focus (intro w hSw; (try dsimp only at hSw); go_simp; try (with_reducible rfl))
              try simp only [Act.put, List.setIfInBounds_toArray, List.set_cons_zero, List.set_cons_succ]
              refine wpAnyH_take (i := 8) (oi := { dst := some 72, op := Op.move (Operand.tmp 71), type := 4, pos := "law.go:209", after := #[{ on := 7, ground := Ground.data }, { on := 4, ground := Ground.chain }], guard := none }) (v := ?_) rfl (by kernel_rfl) (by kernel_rfl) (by kernel_rfl) (fun _ _ _ h => h) (Or.inl ⟨by rfl, ?_⟩) (by assumption) ?_
              rotate_left
              focus (intro w hSw; (try dsimp only at hSw); go_simp; try (with_reducible rfl))
              try simp only [Act.put, List.setIfInBounds_toArray, List.set_cons_zero, List.set_cons_succ]
              refine wpAnyH_take (i := 9) (oi := { dst := some 73, op := Op.move (Operand.tmp 17), type := 4, pos := "law.go:209", after := #[{ on := 8, ground := Ground.guard }], guard := some (8, false) }) (v := ?_) rfl (by kernel_rfl) (by kernel_rfl) (by kernel_rfl) (fun _ _ _ h => h) (Or.inl ⟨by rfl, ?_⟩) (by assumption) ?_
              rotate_left
              focus (intro w hSw; (try dsimp only at hSw); go_simp; try (with_reducible rfl))
              try simp only [Act.put, List.setIfInBounds_toArray, List.set_cons_zero, List.set_cons_succ]
              refine wpAnyH_take (i := 10) (oi := { dst := some 74, op := Op.unOp UnOp.not 4 (Operand.tmp 73), type := 4, pos := "law.go:209", after := #[{ on := 9, ground := Ground.data }, { on := 8, ground := Ground.guard }], guard := some (8, false) }) (v := ?_) rfl (by kernel_rfl) (by kernel_rfl) (by kernel_rfl) (fun _ _ _ h => h) (Or.inl ⟨by rfl, ?_⟩) (by assumption) ?_
              rotate_left
              focus (intro w hSw; (try dsimp only at hSw); go_simp; try (with_reducible rfl))
              try simp only [Act.put, List.setIfInBounds_toArray, List.set_cons_zero, List.set_cons_succ]
              refine wpAnyH_take (i := 11) (oi := { dst := some 75, op := Op.move (Operand.tmp 74), type := 4, pos := "law.go:209", after := #[{ on := 10, ground := Ground.data }, { on := 8, ground := Ground.chain }, { on := 8, ground := Ground.guard }], guard := some (8, false) }) (v := ?_) rfl (by kernel_rfl) (by kernel_rfl) (by kernel_rfl) (fun _ _ _ h => h) (Or.inl ⟨by rfl, ?_⟩) (by assumption) ?_
              rotate_left
              focus (intro w hSw; (try dsimp only at hSw); go_simp; try (with_reducible rfl))
              try simp only [Act.put, List.setIfInBounds_toArray, List.set_cons_zero, List.set_cons_succ]
              refine wpAnyH_take (i := 12) (oi := { dst := some 76, op := Op.move (Operand.tmp 14), type := 26, pos := "law.go:209", after := #[{ on := 11, ground := Ground.guard }], guard := some (11, true) }) (v := undef) rfl (by kernel_rfl) (by kernel_rfl) (by kernel_rfl) (fun _ _ _ h => h) (Or.inr ⟨by rfl, rfl⟩) (by assumption) ?_
              try simp only [Act.put, List.setIfInBounds_toArray, List.set_cons_zero, List.set_cons_succ]
              refine wpAnyH_take (i := 13) (oi := { dst := some 77, op := Op.move (Operand.tmp 16), type := 3, pos := "law.go:209", after := #[{ on := 11, ground := Ground.guard }], guard := some (11, true) }) (v := undef) rfl (by kernel_rfl) (by kernel_rfl) (by kernel_rfl) (fun _ _ _ h => h) (Or.inr ⟨by rfl, rfl⟩) (by assumption) ?_
              try simp only [Act.put, List.setIfInBounds_toArray, List.set_cons_zero, List.set_cons_succ]
              refine wpAnyH_take (i := 14) (oi := { dst := some 78, op := Op.call { callee := Callee.value (Operand.func 19), args := #[Operand.tmp 76, Operand.tmp 77], argTypes := #[26, 3] }, type := 36, pos := "law.go:209", after := #[{ on := 12, ground := Ground.data }, { on := 13, ground := Ground.data }, { on := 11, ground := Ground.chain }, { on := 11, ground := Ground.guard }], guard := some (11, true) }) (v := undef) rfl (by kernel_rfl) (by kernel_rfl) (by kernel_rfl) (fun _ _ _ h => h) (Or.inr ⟨by rfl, rfl⟩) (by assumption) ?_
              try simp only [Act.put, List.setIfInBounds_toArray, List.set_cons_zero, List.set_cons_succ]
              refine wpAnyH_take (i := 15) (oi := { dst := some 79, op := Op.move (Operand.tmp 11), type := 26, pos := "law.go:209", after := #[{ on := 11, ground := Ground.guard }], guard := some (11, true) }) (v := undef) rfl (by kernel_rfl) (by kernel_rfl) (by kernel_rfl) (fun _ _ _ h => h) (Or.inr ⟨by rfl, rfl⟩) (by assumption) ?_
              try simp only [Act.put, List.setIfInBounds_toArray, List.set_cons_zero, List.set_cons_succ]
              refine wpAnyH_take (i := 16) (oi := { dst := some 80, op := Op.move (Operand.tmp 16), type := 3, pos := "law.go:209", after := #[{ on := 11, ground := Ground.guard }], guard := some (11, true) }) (v := undef) rfl (by kernel_rfl) (by kernel_rfl) (by kernel_rfl) (fun _ _ _ h => h) (Or.inr ⟨by rfl, rfl⟩) (by assumption) ?_
              try simp only [Act.put, List.setIfInBounds_toArray, List.set_cons_zero, List.set_cons_succ]
              refine wpAnyH_take (i := 17) (oi := { dst := some 81, op := Op.call { callee := Callee.value (Operand.func 19), args := #[Operand.tmp 79, Operand.tmp 80], argTypes := #[26, 3] }, type := 36, pos := "law.go:209", after := #[{ on := 15, ground := Ground.data }, { on := 16, ground := Ground.data }, { on := 14, ground := Ground.chain }, { on := 11, ground := Ground.guard }], guard := some (11, true) }) (v := undef) rfl (by kernel_rfl) (by kernel_rfl) (by kernel_rfl) (fun _ _ _ h => h) (Or.inr ⟨by rfl, rfl⟩) (by assumption) ?_
              try simp only [Act.put, List.setIfInBounds_toArray, List.set_cons_zero, List.set_cons_succ]
              refine wpAnyH_take (i := 18) (oi := { dst := some 82, op := Op.binOp BinOp.neq 36 (Operand.tmp 78) (Operand.tmp 81) 36, type := 4, pos := "law.go:209", after := #[{ on := 14, ground := Ground.data }, { on := 17, ground := Ground.data }, { on := 11, ground := Ground.guard }], guard := some (11, true) }) (v := undef) rfl (by kernel_rfl) (by kernel_rfl) (by kernel_rfl) (fun _ _ _ h => h) (Or.inr ⟨by rfl, rfl⟩) (by assumption) ?_
              try simp only [Act.put, List.setIfInBounds_toArray, List.set_cons_zero, List.set_cons_succ]
              refine wpAnyH_take (i := 19) (oi := { dst := some 83, op := Op.pick (Operand.tmp 75) (Operand.tmp 82) (Operand.const (Value.bool false)), type := 4, pos := "law.go:209", after := #[{ on := 11, ground := Ground.data }, { on := 18, ground := Ground.data }, { on := 8, ground := Ground.guard }], guard := some (8, false) }) (v := ?_) rfl (by kernel_rfl) (by kernel_rfl) (by kernel_rfl) (fun _ _ _ h => h) (Or.inl ⟨by rfl, ?_⟩) (by assumption) ?_
              rotate_left
              focus (intro w hSw; (try dsimp only at hSw); go_simp; try (with_reducible rfl))
              try simp only [Act.put, List.setIfInBounds_toArray, List.set_cons_zero, List.set_cons_succ]
              refine wpAnyH_take (i := 20) (oi := { dst := some 84, op := Op.pick (Operand.tmp 72) (Operand.const (Value.bool true)) (Operand.tmp 83), type := 4, pos := "law.go:209", after := #[{ on := 8, ground := Ground.data }, { on := 19, ground := Ground.data }], guard := none }) (v := ?_) rfl (by kernel_rfl) (by kernel_rfl) (by kernel_rfl) (fun _ _ _ h => h) (Or.inl ⟨by rfl, ?_⟩) (by assumption) ?_
              rotate_left
              focus (intro w hSw; (try dsimp only at hSw); go_simp; try (with_reducible rfl))
              try simp only [Act.put, List.setIfInBounds_toArray, List.set_cons_zero, List.set_cons_succ]
              refine wpAnyH_done (by kernel_rfl) ?_ _
              go_wp2
              go_meet
              exact ⟨rfl, HQ8.out⟩
            case rest =>
              obtain ⟨rfl, hcq⟩ := hcut
              go_wp2
              go_roundw
              case rel => exact ⟨k + 1, by omega, by go_num, hcq⟩
              case measure => simp [intOf]; omega
          · rw [if_neg (fun h => hlt (hmem.1 h))] at hat
            have HDF := Lib.hid (show decide (((k : Int) - f) % n < m1) = false from decide_eq_false hlt)
            obtain ⟨y, hy⟩ : ∃ y, y = atL L k := ⟨_, rfl⟩
            rw [← hy] at hat
            have HAT := Lib.hid hat.symm
            have HAP := Lib.hid hy
            have hne2 := fun w => run_neq_cl w y y
            simp only [decide_true, Bool.not_true] at hne2
            clear hat hmem hy
            go_wp2_with (go_at_call 20; (with_reducible refine (hlenp.out _ HQ7.out).mono ?_); rintro e w7 ⟨rfl, rfl⟩)
            rw [HDF.out]
            go_cut [84] (fun v wx => v = .bool false ∧ FQ s w x r c b g b2 g2 L M wx)
            case first =>
              refine wp_region_held_drew (S := fun W => W.cell? ⟨s + 1, 0, none⟩ = some (.int .u8 x.b) ∧ W.cell? ⟨s + 1, 1, none⟩ = some (.bool x.ge) ∧ W.cell? ⟨s + 1, 2, none⟩ = some (.bool x.st) ∧ W.cell? ⟨s + 1, 3, none⟩ = some (.int .u8 x.li) ∧ W.cell? ⟨s + 1, 4, none⟩ = some (.int .u8 x.co) ∧ FQ s w x r c b g b2 g2 L M W) (by kernel_rfl) (FQ.s5 HQ7.out.drew) (fun hHeld => ?_)
              refine wpAnyH_take (i := 0) (oi := { dst := some 64, op := Op.move (Operand.tmp 17), type := 4, pos := "law.go:209", after := #[], guard := none }) (v := ?_) rfl (by kernel_rfl) (by kernel_rfl) (by kernel_rfl) (fun _ _ _ h => h) (Or.inl ⟨by rfl, ?_⟩) (by assumption) ?_
              rotate_left
              focus (intro w hSw; (try dsimp only at hSw); go_simp; try (with_reducible rfl))
              try simp only [Act.put, List.setIfInBounds_toArray, List.set_cons_zero, List.set_cons_succ]
              refine wpAnyH_take (i := 1) (oi := { dst := some 65, op := Op.move (Operand.tmp 64), type := 4, pos := "law.go:209", after := #[{ on := 0, ground := Ground.data }], guard := none }) (v := ?_) rfl (by kernel_rfl) (by kernel_rfl) (by kernel_rfl) (fun _ _ _ h => h) (Or.inl ⟨by rfl, ?_⟩) (by assumption) ?_
              rotate_left
              focus (intro w hSw; (try dsimp only at hSw); go_simp; try (with_reducible rfl))
              try simp only [Act.put, List.setIfInBounds_toArray, List.set_cons_zero, List.set_cons_succ]
              refine wpAnyH_take (i := 2) (oi := { dst := some 66, op := Op.move (Operand.tmp 14), type := 26, pos := "law.go:209", after := #[{ on := 1, ground := Ground.guard }], guard := some (1, true) }) (v := undef) rfl (by kernel_rfl) (by kernel_rfl) (by kernel_rfl) (fun _ _ _ h => h) (Or.inr ⟨by rfl, rfl⟩) (by assumption) ?_
              try simp only [Act.put, List.setIfInBounds_toArray, List.set_cons_zero, List.set_cons_succ]
              refine wpAnyH_take (i := 3) (oi := { dst := some 67, op := Op.move (Operand.tmp 16), type := 3, pos := "law.go:209", after := #[{ on := 1, ground := Ground.guard }], guard := some (1, true) }) (v := undef) rfl (by kernel_rfl) (by kernel_rfl) (by kernel_rfl) (fun _ _ _ h => h) (Or.inr ⟨by rfl, rfl⟩) (by assumption) ?_
              try simp only [Act.put, List.setIfInBounds_toArray, List.set_cons_zero, List.set_cons_succ]
              refine wpAnyH_take (i := 4) (oi := { dst := some 68, op := Op.call { callee := Callee.value (Operand.func 19), args := #[Operand.tmp 66, Operand.tmp 67], argTypes := #[26, 3] }, type := 36, pos := "law.go:209", after := #[{ on := 2, ground := Ground.data }, { on := 3, ground := Ground.data }, { on := 1, ground := Ground.chain }, { on := 1, ground := Ground.guard }], guard := some (1, true) }) (v := undef) rfl (by kernel_rfl) (by kernel_rfl) (by kernel_rfl) (fun _ _ _ h => h) (Or.inr ⟨by rfl, rfl⟩) (by assumption) ?_
              try simp only [Act.put, List.setIfInBounds_toArray, List.set_cons_zero, List.set_cons_succ]
              refine wpAnyH_take (i := 5) (oi := { dst := some 69, op := Op.load 36 (Operand.tmp 9), type := 36, pos := "law.go:209", after := #[{ on := 1, ground := Ground.guard }], guard := some (1, true) }) (v := undef) rfl (by kernel_rfl) (by kernel_rfl) (by kernel_rfl) (fun _ _ _ h => h) (Or.inr ⟨by rfl, rfl⟩) (by assumption) ?_
              try simp only [Act.put, List.setIfInBounds_toArray, List.set_cons_zero, List.set_cons_succ]
              refine wpAnyH_take (i := 6) (oi := { dst := some 70, op := Op.binOp BinOp.neq 36 (Operand.tmp 68) (Operand.tmp 69) 36, type := 4, pos := "law.go:209", after := #[{ on := 4, ground := Ground.data }, { on := 5, ground := Ground.data }, { on := 1, ground := Ground.guard }], guard := some (1, true) }) (v := undef) rfl (by kernel_rfl) (by kernel_rfl) (by kernel_rfl) (fun _ _ _ h => h) (Or.inr ⟨by rfl, rfl⟩) (by assumption) ?_
              try simp only [Act.put, List.setIfInBounds_toArray, List.set_cons_zero, List.set_cons_succ]
              refine wpAnyH_take (i := 7) (oi := { dst := some 71, op := Op.pick (Operand.tmp 65) (Operand.tmp 70) (Operand.const (Value.bool false)), type := 4, pos := "law.go:209", after := #[{ on := 1, ground := Ground.data }, { on := 6, ground := Ground.data }], guard := none }) (v := ?_) rfl (by kernel_rfl) (by kernel_rfl) (by kernel_rfl) (fun _ _ _ h => h) (Or.inl ⟨by rfl, ?_⟩) (by assumption) ?_
              rotate_left
              focus (intro w hSw; (try dsimp only at hSw); go_simp; try (with_reducible rfl))
              try simp only [Act.put, List.setIfInBounds_toArray, List.set_cons_zero, List.set_cons_succ]
              refine wpAnyH_take (i := 8) (oi := { dst := some 72, op := Op.move (Operand.tmp 71), type := 4, pos := "law.go:209", after := #[{ on := 7, ground := Ground.data }, { on := 4, ground := Ground.chain }], guard := none }) (v := ?_) rfl (by kernel_rfl) (by kernel_rfl) (by kernel_rfl) (fun _ _ _ h => h) (Or.inl ⟨by rfl, ?_⟩) (by assumption) ?_
              rotate_left
              focus (intro w hSw; (try dsimp only at hSw); go_simp; try (with_reducible rfl))
              try simp only [Act.put, List.setIfInBounds_toArray, List.set_cons_zero, List.set_cons_succ]
              refine wpAnyH_take (i := 9) (oi := { dst := some 73, op := Op.move (Operand.tmp 17), type := 4, pos := "law.go:209", after := #[{ on := 8, ground := Ground.guard }], guard := some (8, false) }) (v := ?_) rfl (by kernel_rfl) (by kernel_rfl) (by kernel_rfl) (fun _ _ _ h => h) (Or.inl ⟨by rfl, ?_⟩) (by assumption) ?_
              rotate_left
              focus (intro w hSw; (try dsimp only at hSw); go_simp; try (with_reducible rfl))
              try simp only [Act.put, List.setIfInBounds_toArray, List.set_cons_zero, List.set_cons_succ]
              refine wpAnyH_take (i := 10) (oi := { dst := some 74, op := Op.unOp UnOp.not 4 (Operand.tmp 73), type := 4, pos := "law.go:209", after := #[{ on := 9, ground := Ground.data }, { on := 8, ground := Ground.guard }], guard := some (8, false) }) (v := ?_) rfl (by kernel_rfl) (by kernel_rfl) (by kernel_rfl) (fun _ _ _ h => h) (Or.inl ⟨by rfl, ?_⟩) (by assumption) ?_
              rotate_left
              focus (intro w hSw; (try dsimp only at hSw); go_simp; try (with_reducible rfl))
              try simp only [Act.put, List.setIfInBounds_toArray, List.set_cons_zero, List.set_cons_succ]
              refine wpAnyH_take (i := 11) (oi := { dst := some 75, op := Op.move (Operand.tmp 74), type := 4, pos := "law.go:209", after := #[{ on := 10, ground := Ground.data }, { on := 8, ground := Ground.chain }, { on := 8, ground := Ground.guard }], guard := some (8, false) }) (v := ?_) rfl (by kernel_rfl) (by kernel_rfl) (by kernel_rfl) (fun _ _ _ h => h) (Or.inl ⟨by rfl, ?_⟩) (by assumption) ?_
              rotate_left
              focus (intro w hSw; (try dsimp only at hSw); go_simp; try (with_reducible rfl))
              try simp only [Act.put, List.setIfInBounds_toArray, List.set_cons_zero, List.set_cons_succ]
              refine wpAnyH_take (i := 12) (oi := { dst := some 76, op := Op.move (Operand.tmp 14), type := 26, pos := "law.go:209", after := #[{ on := 11, ground := Ground.guard }], guard := some (11, true) }) (v := ?_) rfl (by kernel_rfl) (by kernel_rfl) (by kernel_rfl) (fun _ _ _ h => h) (Or.inl ⟨by rfl, ?_⟩) (by assumption) ?_
              rotate_left
              focus (intro w hSw; (try dsimp only at hSw); go_simp; try (with_reducible rfl))
              try simp only [Act.put, List.setIfInBounds_toArray, List.set_cons_zero, List.set_cons_succ]
              refine wpAnyH_take (i := 13) (oi := { dst := some 77, op := Op.move (Operand.tmp 16), type := 3, pos := "law.go:209", after := #[{ on := 11, ground := Ground.guard }], guard := some (11, true) }) (v := ?_) rfl (by kernel_rfl) (by kernel_rfl) (by kernel_rfl) (fun _ _ _ h => h) (Or.inl ⟨by rfl, ?_⟩) (by assumption) ?_
              rotate_left
              focus (intro w hSw; (try dsimp only at hSw); go_simp; try (with_reducible rfl))
              try simp only [Act.put, List.setIfInBounds_toArray, List.set_cons_zero, List.set_cons_succ]
              refine wpAnyH_take (i := 15) (oi := { dst := some 79, op := Op.move (Operand.tmp 11), type := 26, pos := "law.go:209", after := #[{ on := 11, ground := Ground.guard }], guard := some (11, true) }) (v := ?_) rfl (by kernel_rfl) (by kernel_rfl) (by kernel_rfl) (fun _ _ _ h => h) (Or.inl ⟨by rfl, ?_⟩) (by assumption) ?_
              rotate_left
              focus (intro w hSw; (try dsimp only at hSw); go_simp; try (with_reducible rfl))
              try simp only [Act.put, List.setIfInBounds_toArray, List.set_cons_zero, List.set_cons_succ]
              refine wpAnyH_take (i := 16) (oi := { dst := some 80, op := Op.move (Operand.tmp 16), type := 3, pos := "law.go:209", after := #[{ on := 11, ground := Ground.guard }], guard := some (11, true) }) (v := ?_) rfl (by kernel_rfl) (by kernel_rfl) (by kernel_rfl) (fun _ _ _ h => h) (Or.inl ⟨by rfl, ?_⟩) (by assumption) ?_
              rotate_left
              focus (intro w hSw; (try dsimp only at hSw); go_simp; try (with_reducible rfl))
              try simp only [Act.put, List.setIfInBounds_toArray, List.set_cons_zero, List.set_cons_succ]
              refine wpAnyH_ready (rs := [14]) (by kernel_rfl) (by simp) (AllReadyH.cons (o := { dst := some 78, op := Op.call { callee := Callee.value (Operand.func 19), args := #[Operand.tmp 76, Operand.tmp 77], argTypes := #[26, 3] }, type := 36, pos := "law.go:209", after := #[{ on := 12, ground := Ground.data }, { on := 13, ground := Ground.data }, { on := 11, ground := Ground.chain }, { on := 11, ground := Ground.guard }], guard := some (11, true) }) rfl (fun K hK => ?_) AllReadyH.nil)
              go_simp
              go_at_call 19
              refine (at_is (PlAt.drew (FQ.q HQ7.out)) HAT.out).mono ?_
              rintro e w8 ⟨rfl, hb8⟩
              have HQ8 := Lib.hid (FQ.below HQ7.out.drew hb8)
              clear hb8
              go_wp2_with fail
              refine hK.out _ _ (FQ.s5 HQ8.out) (fun hHeld => ?_)
              clear hK K
              try simp only [Act.put, List.setIfInBounds_toArray, List.set_cons_zero, List.set_cons_succ]
              refine wpAnyH_ready (rs := [17]) (by kernel_rfl) (by simp) (AllReadyH.cons (o := { dst := some 81, op := Op.call { callee := Callee.value (Operand.func 19), args := #[Operand.tmp 79, Operand.tmp 80], argTypes := #[26, 3] }, type := 36, pos := "law.go:209", after := #[{ on := 15, ground := Ground.data }, { on := 16, ground := Ground.data }, { on := 14, ground := Ground.chain }, { on := 11, ground := Ground.guard }], guard := some (11, true) }) rfl (fun K hK => ?_) AllReadyH.nil)
              go_simp
              go_at_call 19
              refine (at_is (FQ.p HQ8.out) HAP.out).mono ?_
              rintro e w9 ⟨rfl, hb9⟩
              have HQ9 := Lib.hid (FQ.below HQ8.out hb9)
              clear hb9
              go_wp2_with fail
              refine hK.out _ _ (FQ.s5 HQ9.out) (fun hHeld => ?_)
              clear hK K
              try simp only [Act.put, List.setIfInBounds_toArray, List.set_cons_zero, List.set_cons_succ]
              refine wpAnyH_take (i := 18) (oi := { dst := some 82, op := Op.binOp BinOp.neq 36 (Operand.tmp 78) (Operand.tmp 81) 36, type := 4, pos := "law.go:209", after := #[{ on := 14, ground := Ground.data }, { on := 17, ground := Ground.data }, { on := 11, ground := Ground.guard }], guard := some (11, true) }) (v := ?_) rfl (by kernel_rfl) (by kernel_rfl) (by kernel_rfl) (fun _ _ _ h => h) (Or.inl ⟨by rfl, ?_⟩) (by assumption) ?_
              rotate_left
              focus (intro w hSw; (try dsimp only at hSw); go_simp; try (with_reducible rfl))
              try simp only [Act.put, List.setIfInBounds_toArray, List.set_cons_zero, List.set_cons_succ]
              refine wpAnyH_take (i := 19) (oi := { dst := some 83, op := Op.pick (Operand.tmp 75) (Operand.tmp 82) (Operand.const (Value.bool false)), type := 4, pos := "law.go:209", after := #[{ on := 11, ground := Ground.data }, { on := 18, ground := Ground.data }, { on := 8, ground := Ground.guard }], guard := some (8, false) }) (v := ?_) rfl (by kernel_rfl) (by kernel_rfl) (by kernel_rfl) (fun _ _ _ h => h) (Or.inl ⟨by rfl, ?_⟩) (by assumption) ?_
              rotate_left
              focus (intro w hSw; (try dsimp only at hSw); go_simp; try (with_reducible rfl))
              try simp only [Act.put, List.setIfInBounds_toArray, List.set_cons_zero, List.set_cons_succ]
              refine wpAnyH_take (i := 20) (oi := { dst := some 84, op := Op.pick (Operand.tmp 72) (Operand.const (Value.bool true)) (Operand.tmp 83), type := 4, pos := "law.go:209", after := #[{ on := 8, ground := Ground.data }, { on := 19, ground := Ground.data }], guard := none }) (v := ?_) rfl (by kernel_rfl) (by kernel_rfl) (by kernel_rfl) (fun _ _ _ h => h) (Or.inl ⟨by rfl, ?_⟩) (by assumption) ?_
              rotate_left
              focus (intro w hSw; (try dsimp only at hSw); go_simp; try (with_reducible rfl))
              try simp only [Act.put, List.setIfInBounds_toArray, List.set_cons_zero, List.set_cons_succ]
              refine wpAnyH_done (by kernel_rfl) ?_ _
              go_wp2
              go_meet
              exact ⟨rfl, HQ9.out⟩
            case rest =>
              obtain ⟨rfl, hcq⟩ := hcut
              go_wp2
              go_roundw
              case rel => exact ⟨k + 1, by omega, by go_num, hcq⟩
              case measure => simp [intOf]; omega
        · obtain rfl : k = n := by omega
          go_upto_if 89 with fail
          go_cut [18] (fun v wx => v = .int .i64 (k : Int) ∧ ∃ M2, FQ s w x r c b g b2 g2 L M2 wx ∧ ∀ i : Int, 0 ≤ i → i < k → atL M2 i = x)
          case first =>
            have hMl : M.length = k := by rw [HMM.out, fillL_length, HLL.out]
            obtain ⟨bm1, bm2⟩ := both_many k f u hfb hub
            rw [← HM1.out] at bm1 bm2
            by_cases hft : f = u
            · have hbn : (f != u) = false := by simpa using hft
              have hm := bm1 hft
              have hall : ∀ i : Int, 0 ≤ i → i < k → atL M i = x := by
                intro i h0 h1
                rw [HMM.out, atL_fill i x _ L (by rw [HLL.out]; exact betw_in k f u (Int.natCast_pos.mpr hn1)), if_pos]
                rcases both_ways k f u i hfb hub h0 h1 with h | h
                · exact h
                · exact absurd hft h.1
              have HALL := Lib.hid hall
              have HFT := Lib.hid hft
              clear hft hall bm1 bm2
              go_wp2
              go_meet
              exact ⟨by rw [hm], M, HQ7.out, HALL.out⟩
            · have hbn : (f != u) = true := by simpa using hft
              have hm := bm2 hft
              obtain ⟨m2, hm2⟩ : ∃ m2, m2 = many k u f := ⟨_, rfl⟩
              rw [← hm2] at hm
              have hws : wrap64 ((m1 : Int) + (m2 : Int)) = (k : Int) := by rw [IntWalk.wrap64_in _ (by omega), hm]
              have hfill := fill_any HQ7.out.q u f x
              rw [hMl, betw_len k u f (inn_of ⟨hub.1, hub.2, hfb.1, hfb.2⟩), ← hm2] at hfill
              have HFI := Lib.hid hfill
              have hall : ∀ i : Int, 0 ≤ i → i < k → atL (fillL M (betw k u f) x) i = x := by
                intro i h0 h1
                rw [atL_fill i x _ M (by rw [hMl]; exact betw_in k u f (Int.natCast_pos.mpr hn1)), HMM.out, atL_fill i x _ L (by rw [HLL.out]; exact betw_in k f u (Int.natCast_pos.mpr hn1))]
                rcases both_ways k f u i hfb hub h0 h1 with h | h
                · rw [if_pos h]; split <;> rfl
                · rw [if_pos h.2]
              have HALL := Lib.hid hall
              obtain ⟨M2, hM2⟩ : ∃ M2, M2 = fillL M (betw k u f) x := ⟨_, rfl⟩
              rw [← hM2] at HALL HFI
              obtain ⟨y0, y1, y2, y3, y4⟩ := cell5 HQ7.out.bx
              clear hft hall bm1 bm2 hm2 hfill hM2 hm
              go_wp2_with (go_at_call 15; (with_reducible refine HFI.out.mono ?_); rintro e w9 ⟨rfl, Q9, t9⟩; have HQ9 := Lib.hid (HQ7.out.turn Q9 t9); clear Q9 t9)
              go_meet
              exact ⟨congrArg (Value.int .i64) hws, M2, HQ9.out, HALL.out⟩
          case rest =>
            obtain ⟨rfl, M2, hq9, hall⟩ := hcut
            have HQ9 := Lib.hid hq9
            have HALL := Lib.hid hall
            have hlenp : Hid (∀ X, FQ s w x r c b g b2 g2 L M2 X → Calls Tryd.prog 20 #[.pointer (some ⟨b, 0, none⟩)] X fun e X' => e = .returned (.int .i64 (k : Nat)) ∧ X = X') := by
              intro X hX
              have := len_any hX.p
              rwa [HLL.out] at this
            clear hq9 hall HQ7
            go_wp2_with (go_at_call 20; (with_reducible refine (hlenp.out _ HQ9.out).mono ?_); rintro e w7 ⟨rfl, rfl⟩)
            go_loopw [99] (fun p wr => ∃ j : Nat, j ≤ k ∧ p = .int .i64 j ∧ FQ s w x r c b g b2 g2 L M2 wr) (fun p _ => k - (intOf p).toNat)
            case atStart => exact ⟨0, Nat.zero_le _, rfl, HQ9.out⟩
            case round =>
              obtain ⟨j, hj, rfl, hfq⟩ := hrel
              have HQ7 := Lib.hid hfq
              clear hfq HQ9
              by_cases hjk : j < k
              · have hji : (j : Int) < (k : Int) := by omega
                have HAT := Lib.hid (HALL.out j (by omega) hji).symm
                have hne2 := fun w => run_neq_cl w x x
                simp only [decide_true, Bool.not_true] at hne2
                go_wp2_with fail
                refine wp_region_held_drew (S := fun W => W.cell? ⟨s + 1, 0, none⟩ = some (.int .u8 x.b) ∧ W.cell? ⟨s + 1, 1, none⟩ = some (.bool x.ge) ∧ W.cell? ⟨s + 1, 2, none⟩ = some (.bool x.st) ∧ W.cell? ⟨s + 1, 3, none⟩ = some (.int .u8 x.li) ∧ W.cell? ⟨s + 1, 4, none⟩ = some (.int .u8 x.co) ∧ FQ s w x r c b g b2 g2 L M2 W) (by kernel_rfl) (FQ.s5 HQ7.out.drew) (fun hHeld => ?_)
                refine wpAnyH_take (i := 0) (oi := { dst := some 102, op := Op.move (Operand.tmp 14), type := 26, pos := "law.go:218", after := #[], guard := none }) (v := ?_) rfl (by kernel_rfl) (by kernel_rfl) (by kernel_rfl) (fun _ _ _ h => h) (Or.inl ⟨by rfl, ?_⟩) (by assumption) ?_
                rotate_left
                focus (intro w hSw; (try dsimp only at hSw); go_simp; try (with_reducible rfl))
                try simp only [Act.put, List.setIfInBounds_toArray, List.set_cons_zero, List.set_cons_succ]
                refine wpAnyH_take (i := 1) (oi := { dst := some 103, op := Op.move (Operand.tmp 19), type := 3, pos := "law.go:218", after := #[], guard := none }) (v := ?_) rfl (by kernel_rfl) (by kernel_rfl) (by kernel_rfl) (fun _ _ _ h => h) (Or.inl ⟨by rfl, ?_⟩) (by assumption) ?_
                rotate_left
                focus (intro w hSw; (try dsimp only at hSw); go_simp; try (with_reducible rfl))
                try simp only [Act.put, List.setIfInBounds_toArray, List.set_cons_zero, List.set_cons_succ]
                refine wpAnyH_take (i := 3) (oi := { dst := some 105, op := Op.load 36 (Operand.tmp 9), type := 36, pos := "law.go:218", after := #[], guard := none }) (v := ?_) rfl (by kernel_rfl) (by kernel_rfl) (by kernel_rfl) (fun _ _ _ h => h) (Or.inl ⟨by rfl, ?_⟩) (by assumption) ?_
                rotate_left
                focus (intro w hSw; (try dsimp only at hSw); go_simp; try (with_reducible rfl))
                try simp only [Act.put, List.setIfInBounds_toArray, List.set_cons_zero, List.set_cons_succ]
                refine wpAnyH_ready (rs := [2]) (by kernel_rfl) (by simp) (AllReadyH.cons (o := { dst := some 104, op := Op.call { callee := Callee.value (Operand.func 19), args := #[Operand.tmp 102, Operand.tmp 103], argTypes := #[26, 3] }, type := 36, pos := "law.go:218", after := #[{ on := 0, ground := Ground.data }, { on := 1, ground := Ground.data }], guard := none }) rfl (fun K hK => ?_) AllReadyH.nil)
                go_simp
                go_at_call 19
                refine (at_is (PlAt.drew (FQ.q HQ7.out)) HAT.out).mono ?_
                rintro e w8 ⟨rfl, hb8⟩
                have HQ8 := Lib.hid (FQ.below HQ7.out.drew hb8)
                clear hb8
                go_wp2_with fail
                refine hK.out _ _ (FQ.s5 HQ8.out) (fun hHeld => ?_)
                clear hK K
                try simp only [Act.put, List.setIfInBounds_toArray, List.set_cons_zero, List.set_cons_succ]
                refine wpAnyH_take (i := 4) (oi := { dst := some 106, op := Op.binOp BinOp.neq 36 (Operand.tmp 104) (Operand.tmp 105) 36, type := 4, pos := "law.go:218", after := #[{ on := 2, ground := Ground.data }, { on := 3, ground := Ground.data }], guard := none }) (v := ?_) rfl (by kernel_rfl) (by kernel_rfl) (by kernel_rfl) (fun _ _ _ h => h) (Or.inl ⟨by rfl, ?_⟩) (by assumption) ?_
                rotate_left
                focus (intro w hSw; (try dsimp only at hSw); go_simp; try (with_reducible rfl))
                try simp only [Act.put, List.setIfInBounds_toArray, List.set_cons_zero, List.set_cons_succ]
                refine wpAnyH_done (by kernel_rfl) ?_ _
                go_wp2
                go_roundw
                case rel => exact ⟨j + 1, by omega, by go_num, HQ8.out⟩
                case measure => simp [intOf]; omega
              · obtain rfl : j = k := by omega
                have hMl : M2.length = j := by
                  have h1 := HQ7.out.p.size
                  have h2 := HQ7.out.q.size
                  have h3 := HLL.out
                  omega
                have hfill := fill_any HQ7.out.q (-1) 0 x
                rw [hMl, show betw j (-1) 0 = [] by unfold betw inn; rw [if_neg (by simp)]] at hfill
                have HFI := Lib.hid hfill
                obtain ⟨y0, y1, y2, y3, y4⟩ := cell5 HQ7.out.bx
                clear hfill
                go_wp2_with (first
                  | (go_at_call 20; (with_reducible refine (hlenp.out _ HQ7.out).mono ?_); rintro e w7 ⟨rfl, rfl⟩)
                  | (go_at_call 29; first | ((with_reducible refine (cursor_any HQ7.out.q).mono ?_); rintro e w7 ⟨rfl, rfl⟩) | ((with_reducible refine (cursor_any HQ7.out.p).mono ?_); rintro e w7 ⟨rfl, rfl⟩))
                  | (go_at_call 15; (with_reducible refine HFI.out.mono ?_); rintro e w9 ⟨rfl, Q9, t9⟩; have HQ9 := Lib.hid (HQ7.out.turn Q9 t9); clear Q9 t9))
                go_ret
                rw [← HS.out]
                exact ⟨rfl, HQ9.out.old⟩
theorem planeFills_law {w : World} (hG : Glob w) (r c : Int) {p1 p2 p3 p4 : Prop} (_ : p1) (_ : p2) (v : Value) (L0 : List Cl) (hL : ClsAt w v L0 ∧ L0.length ≤ maxLen ∧ ∀ x ∈ L0, x.Ok) (f : Int) (_ : p3) (t : Int) (_ : p4) (x : Cl) (_ : x.Ok) :
    Calls Tryd.prog 7 #[.agg #[.int .i64 r, .int .i64 c], v, .int .i64 f, .int .i64 t, x.val] w fun e W => e = .returned (.bool true) ∧ Below w.heap.size w W :=
  fills_law r c v L0 f t x w hL.1 hL.2.1 hG
end Go.Proofs.YtkkcdahfiegopaaDoor.Pl
