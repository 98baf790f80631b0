/-
  PlaneClones: the law's walk.
-/
import Derived.Test.YtkkcdahfiegopaaDoorPlCl
import Derived.Test.YtkkcdahfiegopaaDoorPlK
import Derived.Test.YtkkcdahfiegopaaDoorPlM
import Derived.Test.YtkkcdahfiegopaaDoorMaskA
import Derived.Deep.DeepCutAuto
import Derived.Deep.CutRange
namespace Go.Proofs.YtkkcdahfiegopaaDoor.Pl
open Go.RowKit Go.Shelf Base
set_option linter.unusedVariables false
set_option linter.unusedSimpArgs false

set_option maxRecDepth 100000 in
set_option maxHeartbeats 8000000 in
theorem clones_law (r c : Int) (v : Value) (L0 : List Cl) (vo : Value) (O : List Pop) (w : World) (hv : ClsAt w v L0) (hm : L0.length ≤ maxLen) (ho : OpsP w vo O) (hG : Glob w) :
    Calls Tryd.prog 6 #[.agg #[.int .i64 r, .int .i64 c], v, vo] w fun e W => e = .returned (.bool true) ∧ Below w.heap.size w W := by
  obtain ⟨s, hs⟩ : ∃ s, s = w.heap.size := ⟨_, rfl⟩
  have HS := Lib.hid hs
  obtain ⟨W0, hW0⟩ : ∃ W0, W0 = w.alloc (.cells #[.int .i64 r, .int .i64 c] 23) := ⟨_, rfl⟩
  have h0 := heap_alloc_new w (.cells #[.int .i64 r, .int .i64 c] 23)
  have h2 := below_alloc w (.cells #[.int .i64 r, .int .i64 c] 23)
  have hz0 : W0.heap.size = s + 1 := by rw [hW0, World.size_alloc, hs]
  rw [← hW0] at h0 h2
  have hv0 := hv.below h2
  have HAL := Lib.hid (pl_alive find_k W0 (hG.below h2))
  obtain ⟨ao, capo, rfl, hops⟩ := ho
  obtain ⟨m, hmm⟩ : ∃ m, m = O.length := ⟨_, rfl⟩
  rw [← hmm]
  have HMM := Lib.hid hmm
  have HOP := Lib.hid hops
  rw [← hs] at h0 h2
  have HB0 := Lib.hid h0
  have HB2 := Lib.hid h2
  have HV := Lib.hid hv0
  have HML := Lib.hid hm
  have HW0 := Lib.hid hW0.symm
  clear h0 h2 hW0 hs hv hv0 hm hG hops hmm
  go_enter Tryd.func6, Tryd.ntmps6
  go_wp2_with fail
  rw [HW0.out, ← HS.out]
  refine HAL.out.mono ?_
  rintro e w1 ⟨rfl, hb1⟩
  have c1 := (hb1.block s (by omega)).trans HB0.out
  have HO := Lib.hid (HB2.out.trans (hb1.mono (by omega)))
  have HMD := Lib.hid (made_any r c v L0 w1 (HV.out.below hb1) HML.out)
  obtain ⟨q0, q1⟩ := blk2 c1
  have hs1 : s ≤ w1.heap.size := by have := hb1.size; omega
  clear c1 hb1 HB0 HB2 HW0 HAL HV hz0
  go_wp2_with fail
  refine HMD.out.mono ?_
  unfold MadeP xV
  rintro e w2 (⟨hno, pv, r', c', a', l', k', rfl, hb2⟩ | ⟨b, g, gx, n, hcn, hn1, hn2, rfl, P, R, lb, lg, lbx, lgx, hb2⟩)
  · have HO2 := Lib.hid (HO.out.trans (hb2.mono hs1))
    have hlt : s ≤ w2.heap.size := by have := hb2.size; omega
    clear hno hb2 HMD HO
    go_wp2
    go_ret
    rw [← HS.out]
    exact ⟨rfl, HO2.out.alloc hlt _⟩
  · have HO2 := Lib.hid (HO.out.trans (hb2.mono hs1))
    have HP2 := Lib.hid P
    have hl2 : s ≤ w2.heap.size := by have := hb2.size; omega
    have lb2 : s ≤ b := by omega
    have lg2 : s ≤ g := by omega
    clear hb2 R P HMD HO lbx lgx
    by_cases hm40 : 40 < m
    · have hmi : (40 : Int) < (m : Int) := by omega
      go_wp2
      go_ret
      rw [← HS.out]
      exact ⟨rfl, HO2.out.alloc hl2 _⟩
    have hmi : ¬ (40 : Int) < (m : Int) := by omega
    have HP3 := Lib.hid (HP2.out.alloc (.cells #[.int .i64 r, .int .i64 c, .slice (some ⟨gx, 0, none⟩) n n, .int .i64 0] 32))
    have HO3 := Lib.hid (HO2.out.alloc hl2 (.cells #[.int .i64 r, .int .i64 c, .slice (some ⟨gx, 0, none⟩) n n, .int .i64 0] 32))
    have hLl : (mL n L0 L0.length).length = n := by rw [mL_length]
    have HLL := Lib.hid hLl
    clear hLl HO2 HP2
    go_wp2_with fail
    obtain ⟨W3, hW3⟩ : ∃ W3, W3 = w2.alloc (.cells #[.int .i64 r, .int .i64 c, .slice (some ⟨gx, 0, none⟩) n n, .int .i64 0] 32) := ⟨_, rfl⟩
    rw [← hW3] at HP3 HO3 ⊢
    have hl3 : s ≤ W3.heap.size := by rw [hW3, World.size_alloc]; omega
    clear hW3
    go_loopw [34] (fun p wr => ∃ k : Nat, k ≤ m ∧ p = .int .i64 k ∧ ∃ (cur : Int) (L : List Cl), L.length = n ∧ PlAt wr b g r c cur L ∧ Below s w wr ∧ s ≤ wr.heap.size) (fun p _ => m - (intOf p).toNat)
    case atStart => exact ⟨0, Nat.zero_le _, rfl, 0, _, HLL.out, HP3.out, HO3.out, hl3⟩
    case round =>
      obtain ⟨k, hk, rfl, cur, L, hLl, hpl, hold, hlow⟩ := hrel
      have HPL := Lib.hid hpl
      have HOLD := Lib.hid hold
      clear hpl HP3 HO3 HLL hl3 hl2
      by_cases hkm : k < m
      · have hkmi : (k : Int) < (m : Int) := by omega
        have hkl : k < O.length := by rw [← HMM.out]; exact hkm
        obtain ⟨gi, off, rfl, hgi, hC⟩ := HOP.out (by intro h; rw [h] at hkl; simp at hkl)
        obtain ⟨op, hop⟩ : ∃ op, O[k]? = some op := ⟨_, List.getElem?_eq_getElem hkl⟩
        obtain ⟨a0, a1, a2, a3, a4, a5, a6, a7⟩ := hC k op hop
        have hbw : Below w.heap.size w wr := by rw [← HS.out]; exact hold
        have b0 := cell_later hbw a0
        have b1 := cell_later hbw a1
        have b2' := cell_later hbw a2
        have b3 := cell_later hbw a3
        have b4 := cell_later hbw a4
        have b5 := cell_later hbw a5
        have b6 := cell_later hbw a6
        have b7 := cell_later hbw a7
        have hblk := HPL.out.lt
        have hglk := HPL.out.ltg
        clear a0 a1 a2 a3 a4 a5 a6 a7 hC hbw hop hold
        go_wp2_with fail
        have ho0 := heap_alloc_new wr (.cells #[.int .i64 op.k, .int .i64 op.i, .int .i64 op.z, .int .u8 op.x.b, .bool op.x.ge, .bool op.x.st, .int .u8 op.x.li, .int .u8 op.x.co] 38)
        have hba := below_alloc wr (.cells #[.int .i64 op.k, .int .i64 op.i, .int .i64 op.z, .int .u8 op.x.b, .bool op.x.ge, .bool op.x.st, .int .u8 op.x.li, .int .u8 op.x.co] 38)
        obtain ⟨W1, hW1⟩ : ∃ W1, W1 = wr.alloc (.cells #[.int .i64 op.k, .int .i64 op.i, .int .i64 op.z, .int .u8 op.x.b, .bool op.x.ge, .bool op.x.st, .int .u8 op.x.li, .int .u8 op.x.co] 38) := ⟨_, rfl⟩
        obtain ⟨o, hoo⟩ : ∃ o, o = wr.heap.size := ⟨_, rfl⟩
        have hz1 : W1.heap.size = o + 1 := by rw [hW1, World.size_alloc, hoo]
        rw [← hW1, ← hoo] at ho0 hba ⊢
        have HP4 := Lib.hid (HPL.out.below (by rw [← hoo]; exact hba))
        have HO4 := Lib.hid (HOLD.out.trans (hba.mono (by omega)))
        have hob : b < o ∧ g < o := by omega
        have hso : s ≤ o := by omega
        have HB4 := Lib.hid ho0
        clear hW1 hba hoo ho0 b0 b1 b2' b3 b4 b5 b6 b7 hblk hglk HPL HOLD hlow
        refine (clone_any HP4.out).mono ?_
        rintro e w5 ⟨b2, g2, rfl, Q5, hb5, lb5, lg5⟩
        have HP5 := Lib.hid (HP4.out.below hb5)
        have HQ5 := Lib.hid Q5
        have HB5 := Lib.hid ((hb5.block o (by omega)).trans HB4.out)
        have HO5 := Lib.hid (HO4.out.trans (hb5.mono (by omega)))
        have hl5 : o + 1 ≤ w5.heap.size := by have := hb5.size; omega
        have hne5 : b2 ≠ b ∧ b2 ≠ g ∧ g2 ≠ b ∧ g2 ≠ g ∧ b2 ≠ o ∧ g2 ≠ o := by refine ⟨?_, ?_, ?_, ?_, ?_, ?_⟩ <;> omega
        have HSM := same_any HP5.out HQ5.out
        rw [show sameP r c cur r c cur L L = true from decide_eq_true ⟨rfl, rfl, rfl, rfl⟩] at HSM
        have HSM := Lib.hid HSM
        clear Q5 hb5 HP4 HB4 HO4 lb5 lg5 hz1
        go_wp2_with fail
        refine HSM.out.mono ?_
        rintro e w6 ⟨rfl, hb6⟩
        have HP6 := Lib.hid (HP5.out.below hb6)
        have HQ6 := Lib.hid (HQ5.out.below hb6)
        have HB6 := Lib.hid ((hb6.block o (by omega)).trans HB5.out)
        have HO6 := Lib.hid (HO5.out.trans (hb6.mono (by omega)))
        have hl6 : o + 1 ≤ w6.heap.size := by have := hb6.size; omega
        clear hb6 HP5 HQ5 HB5 HO5 HSM hl5
        obtain ⟨_, y1, _⟩ := blk8 HB6.out
        obtain ⟨jf, hjf, hjf1, _⟩ := Mask.mask_nat op.i 4095 12 4096 (by decide) (by decide) (by decide)
        obtain ⟨f, hf⟩ : ∃ f, f = (bits .and .i64 op.i 4095).tmod n := ⟨_, rfl⟩
        have hfb : 0 ≤ f ∧ f < n := by
          rw [hf, show bits .and .i64 op.i 4095 = (jf : Int) from hjf]
          exact ⟨Int.tmod_nonneg _ (Int.natCast_nonneg _), Int.tmod_lt_of_pos _ (Int.natCast_pos.mpr hn1)⟩
        have HF := Lib.hid hf.symm
        clear hf hjf hjf1
        have hz : ((n : Int) == 0) = false := by simp; omega
        have hlen := len_any HP6.out.drew
        rw [hLl] at hlen
        have HLN := Lib.hid hlen
        clear hlen
        go_wp2_with fail
        go_cut [13] (fun v3 wx => v3 = .int .i64 f ∧ wx = w6.drew)
        case first =>
          go_region_with (go_at_call 20; (with_reducible refine HLN.out.mono ?_); rintro e w4 ⟨rfl, rfl⟩)
          all_goals go_wp2
          all_goals go_meet
          all_goals exact ⟨by rw [← HF.out], rfl⟩
        case rest =>
          obtain ⟨rfl, rfl⟩ := hcut
          have HP7 := Lib.hid HP6.out.drew
          have HQ7 := Lib.hid HQ6.out.drew
          have HB7 := Lib.hid (show w6.drew.heap[o]? = _ from HB6.out)
          have HO7 := Lib.hid (below_drew HO6.out)
          have hl7 : o + 1 ≤ w6.drew.heap.size := hl6
          obtain ⟨w7, hw7⟩ : ∃ w7, w7 = w6.drew := ⟨_, rfl⟩
          rw [← hw7] at HP7 HQ7 HB7 HO7 hl7 ⊢
          obtain ⟨y, hy⟩ : ∃ y, y = atL L f := ⟨_, rfl⟩
          have HY := Lib.hid hy
          clear hw7 HP6 HQ6 HB6 HO6 hl6 HLN y1 hy
          go_wp2_with fail
          refine (at_is HQ7.out HY.out).mono ?_
          rintro e w8 ⟨rfl, hb8⟩
          have HP8 := Lib.hid (HP7.out.below hb8)
          have HQ8 := Lib.hid (HQ7.out.below hb8)
          have HB8 := Lib.hid ((hb8.block o (by omega)).trans HB7.out)
          have HO8 := Lib.hid (HO7.out.trans (hb8.mono (by omega)))
          have hl8 : o + 1 ≤ w8.heap.size := by have := hb8.size; omega
          obtain ⟨_, _, _, a3, a4, a5, a6, a7⟩ := blk8 HB8.out
          have z3 := fun ob => cell_later (below_alloc w8 ob) a3
          have z4 := fun ob => cell_later (below_alloc w8 ob) a4
          have z5 := fun ob => cell_later (below_alloc w8 ob) a5
          have z6 := fun ob => cell_later (below_alloc w8 ob) a6
          have z7 := fun ob => cell_later (below_alloc w8 ob) a7
          clear hb8 HP7 HQ7 HB7 HO7 hl7 a3 a4 a5 a6 a7
          go_wp2_with fail
          have hf9 := heap_alloc_new w8 (.cells #[.int .u8 y.b, .bool y.ge, .bool y.st, .int .u8 y.li, .int .u8 y.co] 36)
          have hba := below_alloc w8 (.cells #[.int .u8 y.b, .bool y.ge, .bool y.st, .int .u8 y.li, .int .u8 y.co] 36)
          obtain ⟨W9, hW9⟩ : ∃ W9, W9 = w8.alloc (.cells #[.int .u8 y.b, .bool y.ge, .bool y.st, .int .u8 y.li, .int .u8 y.co] 36) := ⟨_, rfl⟩
          obtain ⟨bf, hbf⟩ : ∃ bf, bf = w8.heap.size := ⟨_, rfl⟩
          have hz9 : W9.heap.size = bf + 1 := by rw [hW9, World.size_alloc, hbf]
          rw [← hW9, ← hbf] at hf9 hba ⊢
          have HP9 := Lib.hid (HP8.out.below (by rw [← hbf]; exact hba))
          have HQ9 := Lib.hid (HQ8.out.below (by rw [← hbf]; exact hba))
          have HB9 := Lib.hid ((hba.block o (by omega)).trans HB8.out)
          have HF9 := Lib.hid hf9
          have HO9 := Lib.hid (HO8.out.trans (hba.mono (by omega)))
          have hobf : o < bf := by omega
          clear hW9 hba hbf hf9 HP8 HQ8 HB8 HO8 hl8 z3 z4 z5 z6 z7
          refine (set_any HP9.out f op.x).mono ?_
          rintro e w10 ⟨rfl, P10, t10⟩
          have HP10 := Lib.hid P10
          have HQ10 := Lib.hid (HQ9.out.turn t10 (by show b2 ≠ g; exact hne5.2.1) (by show g2 ≠ g; exact hne5.2.2.2.1))
          have HB10 := Lib.hid ((t10.block o (by omega) (by show o ≠ g; omega)).trans HB9.out)
          have HF10 := Lib.hid ((t10.block bf (by omega) (by show bf ≠ g; omega)).trans HF9.out)
          have HO10 := Lib.hid (HO9.out.trans (t10.at_below (by omega) lg2))
          have hl10 : bf + 1 ≤ w10.heap.size := by have := t10.size; omega
          have hhas : hasL (setL L f op.x) f = true := by unfold hasL; rw [setL_length, hLl]; exact decide_eq_true hfb
          have hpt := point_any HP10.out f
          rw [hhas] at hpt
          simp only [if_true] at hpt
          have HPT := Lib.hid hpt
          clear P10 t10 HP9 HQ9 HB9 HF9 HO9 hz9 hpt
          go_wp2_with fail
          refine HPT.out.mono ?_
          rintro e w11 ⟨rfl, P11, t11⟩
          obtain ⟨M, hM⟩ : ∃ M, M = setL L f op.x := ⟨_, rfl⟩
          have hMl : M.length = n := by rw [hM, setL_length, hLl]
          rw [← hM] at P11
          have HM := Lib.hid hM
          have HR := Lib.hid (show RQ s w o bf op y r c f cur b g b2 g2 M L w11 from ⟨(t11.block o (by omega) (by show o ≠ b; omega)).trans HB10.out, (t11.block bf (by omega) (by show bf ≠ b; omega)).trans HF10.out, P11, HQ10.out.turn t11 (by show b2 ≠ b; exact hne5.1) (by show g2 ≠ b; exact hne5.2.2.1), HO10.out.trans (t11.at_below (by omega) lb2), by have := t11.size; omega⟩)
          clear P11 t11 HP10 HQ10 HB10 HF10 HO10 hl10 hhas HPT hM hobf
          go_wp2_with fail
          go_cut [95] (fun v wx => v = .bool false ∧ RQ s w o bf op y r c f cur b g b2 g2 M L wx)
          case first =>
            have hap : op.x = atL M f := by rw [HM.out, atL_setL L f f op.x (by rw [hLl]; exact hfb), if_pos rfl]
            have HAP := Lib.hid hap
            have hms : M = L ↔ y = op.x := by rw [HM.out, HY.out]; exact setL_same L f op.x hfb.1 (by rw [hLl]; exact hfb.2)
            have HMS := Lib.hid hms
            have hne1 := fun w => run_neq_cl w op.x op.x
            have hne3 := fun w => run_neq_cl w y y
            simp only [decide_true, Bool.not_true] at hne1 hne3
            have heq := fun w => run_eql_cl w y op.x
            have HSX : Hid (∀ X, RQ s w o bf op y r c f cur b g b2 g2 M L X → Calls Tryd.prog 28 #[.pointer (some ⟨b, 0, none⟩), .pointer (some ⟨b2, 0, none⟩)] X fun e X' => e = .returned (.bool (sameP r c f r c cur M L)) ∧ Below X.heap.size X X') := fun X hX => same_any hX.p hX.q
            clear hap hms
            by_cases hyx : y = op.x
            · rw [decide_eq_true hyx] at heq
              have hml := HMS.out.2 hyx
              by_cases hfc : cur = f
              · rw [show sameP r c f r c cur M L = true from decide_eq_true ⟨rfl, rfl, hfc.symm, hml⟩] at HSX
                have hcf : (cur == f) = true := by simpa using hfc
                have HX1 := Lib.hid (And.intro hyx (And.intro hfc hml))
                clear hyx hfc hml
                refine wp_region_held_drew (S := fun W => W.cell? ⟨o, 3, none⟩ = some (.int .u8 op.x.b) ∧ W.cell? ⟨o, 4, none⟩ = some (.bool op.x.ge) ∧ W.cell? ⟨o, 5, none⟩ = some (.bool op.x.st) ∧ W.cell? ⟨o, 6, none⟩ = some (.int .u8 op.x.li) ∧ W.cell? ⟨o, 7, none⟩ = some (.int .u8 op.x.co) ∧ W.cell? ⟨bf, 0, none⟩ = some (.int .u8 y.b) ∧ W.cell? ⟨bf, 1, none⟩ = some (.bool y.ge) ∧ W.cell? ⟨bf, 2, none⟩ = some (.bool y.st) ∧ W.cell? ⟨bf, 3, none⟩ = some (.int .u8 y.li) ∧ W.cell? ⟨bf, 4, none⟩ = some (.int .u8 y.co) ∧ RQ s w o bf op y r c f cur b g b2 g2 M L W) (by kernel_rfl) (RQ.s10 HR.out.drew) (fun hHeld => ?_)
                refine wpAnyH_take (i := 0) (oi := { dst := some 61, op := Op.move (Operand.tmp 7), type := 26, pos := "law.go:183", after := #[], guard := none }) (v := ?_) rfl (by kernel_rfl) (by kernel_rfl) (by kernel_rfl) (fun _ _ _ h => h) (Or.inl ⟨by rfl, ?_⟩) (by assumption) ?_
                rotate_left
                focus (intro w hSw; (try dsimp only at hSw); go_simp; try (with_reducible rfl))
                try simp only [Act.put, List.setIfInBounds_toArray, List.set_cons_zero, List.set_cons_succ]
                refine wpAnyH_take (i := 1) (oi := { dst := some 62, op := Op.move (Operand.tmp 13), type := 3, pos := "law.go:183", after := #[], guard := none }) (v := ?_) rfl (by kernel_rfl) (by kernel_rfl) (by kernel_rfl) (fun _ _ _ h => h) (Or.inl ⟨by rfl, ?_⟩) (by assumption) ?_
                rotate_left
                focus (intro w hSw; (try dsimp only at hSw); go_simp; try (with_reducible rfl))
                try simp only [Act.put, List.setIfInBounds_toArray, List.set_cons_zero, List.set_cons_succ]
                refine wpAnyH_take (i := 3) (oi := { dst := some 64, op := Op.fieldAddr 38 (Operand.tmp 11) 3, type := 0, pos := "law.go:183", after := #[], guard := none }) (v := ?_) rfl (by kernel_rfl) (by kernel_rfl) (by kernel_rfl) (fun _ _ _ h => h) (Or.inl ⟨by rfl, ?_⟩) (by assumption) ?_
                rotate_left
                focus (intro w hSw; (try dsimp only at hSw); go_simp; try (with_reducible rfl))
                try simp only [Act.put, List.setIfInBounds_toArray, List.set_cons_zero, List.set_cons_succ]
                refine wpAnyH_take (i := 4) (oi := { dst := some 65, op := Op.load 36 (Operand.tmp 64), type := 36, pos := "law.go:183", after := #[{ on := 3, ground := Ground.data }], guard := none }) (v := ?_) rfl (by kernel_rfl) (by kernel_rfl) (by kernel_rfl) (fun _ _ _ h => h) (Or.inl ⟨by rfl, ?_⟩) (by assumption) ?_
                rotate_left
                focus (intro w hSw; (try dsimp only at hSw); go_simp; try (with_reducible rfl))
                try simp only [Act.put, List.setIfInBounds_toArray, List.set_cons_zero, List.set_cons_succ]
                refine wpAnyH_ready (rs := [2]) (by kernel_rfl) (by simp) (AllReadyH.cons (o := { dst := some 63, op := Op.call { callee := Callee.value (Operand.func 19), args := #[Operand.tmp 61, Operand.tmp 62], argTypes := #[26, 3] }, type := 36, pos := "law.go:183", after := #[{ on := 0, ground := Ground.data }, { on := 1, ground := Ground.data }], guard := none }) rfl (fun K hK => ?_) AllReadyH.nil)
                go_simp
                go_at_call 19
                refine (at_is (RQ.p HR.out.drew) HAP.out).mono ?_
                rintro e w12 ⟨rfl, hb12⟩
                have HR1 := Lib.hid (RQ.below HR.out.drew hb12)
                clear hb12
                go_wp2_with fail
                refine hK.out _ _ (RQ.s10 HR1.out) (fun hHeld => ?_)
                clear hK K
                try simp only [Act.put, List.setIfInBounds_toArray, List.set_cons_zero, List.set_cons_succ]
                refine wpAnyH_take (i := 5) (oi := { dst := some 66, op := Op.binOp BinOp.neq 36 (Operand.tmp 63) (Operand.tmp 65) 36, type := 4, pos := "law.go:183", after := #[{ on := 2, ground := Ground.data }, { on := 4, ground := Ground.data }], guard := none }) (v := ?_) rfl (by kernel_rfl) (by kernel_rfl) (by kernel_rfl) (fun _ _ _ h => h) (Or.inl ⟨by rfl, ?_⟩) (by assumption) ?_
                rotate_left
                focus (intro w hSw; (try dsimp only at hSw); go_simp; try (with_reducible rfl))
                try simp only [Act.put, List.setIfInBounds_toArray, List.set_cons_zero, List.set_cons_succ]
                refine wpAnyH_take (i := 6) (oi := { dst := some 67, op := Op.move (Operand.tmp 66), type := 4, pos := "law.go:183", after := #[{ on := 5, ground := Ground.data }, { on := 2, ground := Ground.chain }], guard := none }) (v := ?_) rfl (by kernel_rfl) (by kernel_rfl) (by kernel_rfl) (fun _ _ _ h => h) (Or.inl ⟨by rfl, ?_⟩) (by assumption) ?_
                rotate_left
                focus (intro w hSw; (try dsimp only at hSw); go_simp; try (with_reducible rfl))
                try simp only [Act.put, List.setIfInBounds_toArray, List.set_cons_zero, List.set_cons_succ]
                refine wpAnyH_take (i := 7) (oi := { dst := some 68, op := Op.move (Operand.tmp 12), type := 26, pos := "law.go:183", after := #[{ on := 6, ground := Ground.guard }], guard := some (6, false) }) (v := ?_) rfl (by kernel_rfl) (by kernel_rfl) (by kernel_rfl) (fun _ _ _ h => h) (Or.inl ⟨by rfl, ?_⟩) (by assumption) ?_
                rotate_left
                focus (intro w hSw; (try dsimp only at hSw); go_simp; try (with_reducible rfl))
                try simp only [Act.put, List.setIfInBounds_toArray, List.set_cons_zero, List.set_cons_succ]
                refine wpAnyH_take (i := 8) (oi := { dst := some 69, op := Op.move (Operand.tmp 13), type := 3, pos := "law.go:183", after := #[{ on := 6, ground := Ground.guard }], guard := some (6, false) }) (v := ?_) rfl (by kernel_rfl) (by kernel_rfl) (by kernel_rfl) (fun _ _ _ h => h) (Or.inl ⟨by rfl, ?_⟩) (by assumption) ?_
                rotate_left
                focus (intro w hSw; (try dsimp only at hSw); go_simp; try (with_reducible rfl))
                try simp only [Act.put, List.setIfInBounds_toArray, List.set_cons_zero, List.set_cons_succ]
                refine wpAnyH_take (i := 10) (oi := { dst := some 71, op := Op.load 36 (Operand.tmp 14), type := 36, pos := "law.go:183", after := #[{ on := 6, ground := Ground.guard }], guard := some (6, false) }) (v := ?_) rfl (by kernel_rfl) (by kernel_rfl) (by kernel_rfl) (fun _ _ _ h => h) (Or.inl ⟨by rfl, ?_⟩) (by assumption) ?_
                rotate_left
                focus (intro w hSw; (try dsimp only at hSw); go_simp; try (with_reducible rfl))
                try simp only [Act.put, List.setIfInBounds_toArray, List.set_cons_zero, List.set_cons_succ]
                refine wpAnyH_ready (rs := [9]) (by kernel_rfl) (by simp) (AllReadyH.cons (o := { dst := some 70, op := Op.call { callee := Callee.value (Operand.func 19), args := #[Operand.tmp 68, Operand.tmp 69], argTypes := #[26, 3] }, type := 36, pos := "law.go:183", after := #[{ on := 7, ground := Ground.data }, { on := 8, ground := Ground.data }, { on := 6, ground := Ground.chain }, { on := 6, ground := Ground.guard }], guard := some (6, false) }) rfl (fun K hK => ?_) AllReadyH.nil)
                go_simp
                go_at_call 19
                refine (at_is (RQ.q HR1.out) HY.out).mono ?_
                rintro e w13 ⟨rfl, hb13⟩
                have HR2 := Lib.hid (RQ.below HR1.out hb13)
                clear hb13
                go_wp2_with fail
                refine hK.out _ _ (RQ.s10 HR2.out) (fun hHeld => ?_)
                clear hK K
                try simp only [Act.put, List.setIfInBounds_toArray, List.set_cons_zero, List.set_cons_succ]
                refine wpAnyH_take (i := 11) (oi := { dst := some 72, op := Op.binOp BinOp.neq 36 (Operand.tmp 70) (Operand.tmp 71) 36, type := 4, pos := "law.go:183", after := #[{ on := 9, ground := Ground.data }, { on := 10, ground := Ground.data }, { on := 6, ground := Ground.guard }], guard := some (6, false) }) (v := ?_) rfl (by kernel_rfl) (by kernel_rfl) (by kernel_rfl) (fun _ _ _ h => h) (Or.inl ⟨by rfl, ?_⟩) (by assumption) ?_
                rotate_left
                focus (intro w hSw; (try dsimp only at hSw); go_simp; try (with_reducible rfl))
                try simp only [Act.put, List.setIfInBounds_toArray, List.set_cons_zero, List.set_cons_succ]
                refine wpAnyH_take (i := 12) (oi := { dst := some 73, op := Op.pick (Operand.tmp 67) (Operand.const (Value.bool true)) (Operand.tmp 72), type := 4, pos := "law.go:183", after := #[{ on := 6, ground := Ground.data }, { on := 11, ground := Ground.data }], guard := none }) (v := ?_) rfl (by kernel_rfl) (by kernel_rfl) (by kernel_rfl) (fun _ _ _ h => h) (Or.inl ⟨by rfl, ?_⟩) (by assumption) ?_
                rotate_left
                focus (intro w hSw; (try dsimp only at hSw); go_simp; try (with_reducible rfl))
                try simp only [Act.put, List.setIfInBounds_toArray, List.set_cons_zero, List.set_cons_succ]
                refine wpAnyH_take (i := 13) (oi := { dst := some 74, op := Op.move (Operand.tmp 73), type := 4, pos := "law.go:183", after := #[{ on := 12, ground := Ground.data }, { on := 9, ground := Ground.chain }], guard := none }) (v := ?_) rfl (by kernel_rfl) (by kernel_rfl) (by kernel_rfl) (fun _ _ _ h => h) (Or.inl ⟨by rfl, ?_⟩) (by assumption) ?_
                rotate_left
                focus (intro w hSw; (try dsimp only at hSw); go_simp; try (with_reducible rfl))
                try simp only [Act.put, List.setIfInBounds_toArray, List.set_cons_zero, List.set_cons_succ]
                refine wpAnyH_take (i := 14) (oi := { dst := some 75, op := Op.move (Operand.tmp 7), type := 26, pos := "law.go:183", after := #[{ on := 13, ground := Ground.guard }], guard := some (13, false) }) (v := ?_) rfl (by kernel_rfl) (by kernel_rfl) (by kernel_rfl) (fun _ _ _ h => h) (Or.inl ⟨by rfl, ?_⟩) (by assumption) ?_
                rotate_left
                focus (intro w hSw; (try dsimp only at hSw); go_simp; try (with_reducible rfl))
                try simp only [Act.put, List.setIfInBounds_toArray, List.set_cons_zero, List.set_cons_succ]
                refine wpAnyH_take (i := 16) (oi := { dst := some 77, op := Op.move (Operand.tmp 13), type := 3, pos := "law.go:183", after := #[{ on := 13, ground := Ground.guard }], guard := some (13, false) }) (v := ?_) rfl (by kernel_rfl) (by kernel_rfl) (by kernel_rfl) (fun _ _ _ h => h) (Or.inl ⟨by rfl, ?_⟩) (by assumption) ?_
                rotate_left
                focus (intro w hSw; (try dsimp only at hSw); go_simp; try (with_reducible rfl))
                try simp only [Act.put, List.setIfInBounds_toArray, List.set_cons_zero, List.set_cons_succ]
                refine wpAnyH_ready (rs := [15]) (by kernel_rfl) (by simp) (AllReadyH.cons (o := { dst := some 76, op := Op.call { callee := Callee.value (Operand.func 29), args := #[Operand.tmp 75], argTypes := #[26] }, type := 3, pos := "law.go:183", after := #[{ on := 14, ground := Ground.data }, { on := 13, ground := Ground.chain }, { on := 13, ground := Ground.guard }], guard := some (13, false) }) rfl (fun K hK => ?_) AllReadyH.nil)
                go_simp
                go_at_call 29
                refine (cursor_any (RQ.p HR2.out)).mono ?_
                rintro e w14 ⟨rfl, rfl⟩
                go_wp2_with fail
                refine hK.out _ _ (RQ.s10 HR2.out) (fun hHeld => ?_)
                clear hK K
                try simp only [Act.put, List.setIfInBounds_toArray, List.set_cons_zero, List.set_cons_succ]
                refine wpAnyH_take (i := 17) (oi := { dst := some 78, op := Op.binOp BinOp.neq 3 (Operand.tmp 76) (Operand.tmp 77) 3, type := 4, pos := "law.go:183", after := #[{ on := 15, ground := Ground.data }, { on := 16, ground := Ground.data }, { on := 13, ground := Ground.guard }], guard := some (13, false) }) (v := ?_) rfl (by kernel_rfl) (by kernel_rfl) (by kernel_rfl) (fun _ _ _ h => h) (Or.inl ⟨by rfl, ?_⟩) (by assumption) ?_
                rotate_left
                focus (intro w hSw; (try dsimp only at hSw); go_simp; try (with_reducible rfl))
                try simp only [Act.put, List.setIfInBounds_toArray, List.set_cons_zero, List.set_cons_succ]
                refine wpAnyH_take (i := 18) (oi := { dst := some 79, op := Op.pick (Operand.tmp 74) (Operand.const (Value.bool true)) (Operand.tmp 78), type := 4, pos := "law.go:183", after := #[{ on := 13, ground := Ground.data }, { on := 17, ground := Ground.data }], guard := none }) (v := ?_) rfl (by kernel_rfl) (by kernel_rfl) (by kernel_rfl) (fun _ _ _ h => h) (Or.inl ⟨by rfl, ?_⟩) (by assumption) ?_
                rotate_left
                focus (intro w hSw; (try dsimp only at hSw); go_simp; try (with_reducible rfl))
                try simp only [Act.put, List.setIfInBounds_toArray, List.set_cons_zero, List.set_cons_succ]
                refine wpAnyH_take (i := 19) (oi := { dst := some 80, op := Op.move (Operand.tmp 79), type := 4, pos := "law.go:183", after := #[{ on := 18, ground := Ground.data }, { on := 15, ground := Ground.chain }], guard := none }) (v := ?_) rfl (by kernel_rfl) (by kernel_rfl) (by kernel_rfl) (fun _ _ _ h => h) (Or.inl ⟨by rfl, ?_⟩) (by assumption) ?_
                rotate_left
                focus (intro w hSw; (try dsimp only at hSw); go_simp; try (with_reducible rfl))
                try simp only [Act.put, List.setIfInBounds_toArray, List.set_cons_zero, List.set_cons_succ]
                refine wpAnyH_take (i := 20) (oi := { dst := some 81, op := Op.move (Operand.tmp 7), type := 26, pos := "law.go:183", after := #[{ on := 19, ground := Ground.guard }], guard := some (19, false) }) (v := ?_) rfl (by kernel_rfl) (by kernel_rfl) (by kernel_rfl) (fun _ _ _ h => h) (Or.inl ⟨by rfl, ?_⟩) (by assumption) ?_
                rotate_left
                focus (intro w hSw; (try dsimp only at hSw); go_simp; try (with_reducible rfl))
                try simp only [Act.put, List.setIfInBounds_toArray, List.set_cons_zero, List.set_cons_succ]
                refine wpAnyH_take (i := 21) (oi := { dst := some 82, op := Op.move (Operand.tmp 12), type := 26, pos := "law.go:183", after := #[{ on := 19, ground := Ground.guard }], guard := some (19, false) }) (v := ?_) rfl (by kernel_rfl) (by kernel_rfl) (by kernel_rfl) (fun _ _ _ h => h) (Or.inl ⟨by rfl, ?_⟩) (by assumption) ?_
                rotate_left
                focus (intro w hSw; (try dsimp only at hSw); go_simp; try (with_reducible rfl))
                try simp only [Act.put, List.setIfInBounds_toArray, List.set_cons_zero, List.set_cons_succ]
                refine wpAnyH_take (i := 23) (oi := { dst := some 84, op := Op.load 36 (Operand.tmp 14), type := 36, pos := "law.go:183", after := #[{ on := 19, ground := Ground.guard }], guard := some (19, false) }) (v := ?_) rfl (by kernel_rfl) (by kernel_rfl) (by kernel_rfl) (fun _ _ _ h => h) (Or.inl ⟨by rfl, ?_⟩) (by assumption) ?_
                rotate_left
                focus (intro w hSw; (try dsimp only at hSw); go_simp; try (with_reducible rfl))
                try simp only [Act.put, List.setIfInBounds_toArray, List.set_cons_zero, List.set_cons_succ]
                refine wpAnyH_take (i := 24) (oi := { dst := some 85, op := Op.fieldAddr 38 (Operand.tmp 11) 3, type := 0, pos := "law.go:183", after := #[{ on := 19, ground := Ground.guard }], guard := some (19, false) }) (v := ?_) rfl (by kernel_rfl) (by kernel_rfl) (by kernel_rfl) (fun _ _ _ h => h) (Or.inl ⟨by rfl, ?_⟩) (by assumption) ?_
                rotate_left
                focus (intro w hSw; (try dsimp only at hSw); go_simp; try (with_reducible rfl))
                try simp only [Act.put, List.setIfInBounds_toArray, List.set_cons_zero, List.set_cons_succ]
                refine wpAnyH_take (i := 25) (oi := { dst := some 86, op := Op.load 36 (Operand.tmp 85), type := 36, pos := "law.go:183", after := #[{ on := 24, ground := Ground.data }, { on := 19, ground := Ground.guard }], guard := some (19, false) }) (v := ?_) rfl (by kernel_rfl) (by kernel_rfl) (by kernel_rfl) (fun _ _ _ h => h) (Or.inl ⟨by rfl, ?_⟩) (by assumption) ?_
                rotate_left
                focus (intro w hSw; (try dsimp only at hSw); go_simp; try (with_reducible rfl))
                try simp only [Act.put, List.setIfInBounds_toArray, List.set_cons_zero, List.set_cons_succ]
                refine wpAnyH_take (i := 26) (oi := { dst := some 87, op := Op.binOp BinOp.eql 36 (Operand.tmp 84) (Operand.tmp 86) 36, type := 4, pos := "law.go:183", after := #[{ on := 23, ground := Ground.data }, { on := 25, ground := Ground.data }, { on := 19, ground := Ground.guard }], guard := some (19, false) }) (v := ?_) rfl (by kernel_rfl) (by kernel_rfl) (by kernel_rfl) (fun _ _ _ h => h) (Or.inl ⟨by rfl, ?_⟩) (by assumption) ?_
                rotate_left
                focus (intro w hSw; (try dsimp only at hSw); go_simp; try (with_reducible rfl))
                try simp only [Act.put, List.setIfInBounds_toArray, List.set_cons_zero, List.set_cons_succ]
                refine wpAnyH_ready (rs := [22]) (by kernel_rfl) (by simp) (AllReadyH.cons (o := { dst := some 83, op := Op.call { callee := Callee.value (Operand.func 28), args := #[Operand.tmp 81, Operand.tmp 82], argTypes := #[26, 26] }, type := 4, pos := "law.go:183", after := #[{ on := 20, ground := Ground.data }, { on := 21, ground := Ground.data }, { on := 19, ground := Ground.chain }, { on := 19, ground := Ground.guard }], guard := some (19, false) }) rfl (fun K hK => ?_) AllReadyH.nil)
                go_simp
                go_at_call 28
                refine (HSX.out _ HR2.out).mono ?_
                rintro e w15 ⟨rfl, hb15⟩
                have HR3 := Lib.hid (RQ.below HR2.out hb15)
                clear hb15
                go_wp2_with fail
                refine hK.out _ _ (RQ.s10 HR3.out) (fun hHeld => ?_)
                clear hK K
                try simp only [Act.put, List.setIfInBounds_toArray, List.set_cons_zero, List.set_cons_succ]
                refine wpAnyH_take (i := 27) (oi := { dst := some 88, op := Op.move (Operand.tmp 87), type := 4, pos := "law.go:183", after := #[{ on := 26, ground := Ground.data }, { on := 22, ground := Ground.chain }, { on := 19, ground := Ground.guard }], guard := some (19, false) }) (v := ?_) rfl (by kernel_rfl) (by kernel_rfl) (by kernel_rfl) (fun _ _ _ h => h) (Or.inl ⟨by rfl, ?_⟩) (by assumption) ?_
                rotate_left
                focus (intro w hSw; (try dsimp only at hSw); go_simp; try (with_reducible rfl))
                try simp only [Act.put, List.setIfInBounds_toArray, List.set_cons_zero, List.set_cons_succ]
                refine wpAnyH_take (i := 28) (oi := { dst := some 89, op := Op.move (Operand.tmp 12), type := 26, pos := "law.go:183", after := #[{ on := 27, ground := Ground.guard }], guard := some (27, true) }) (v := ?_) rfl (by kernel_rfl) (by kernel_rfl) (by kernel_rfl) (fun _ _ _ h => h) (Or.inl ⟨by rfl, ?_⟩) (by assumption) ?_
                rotate_left
                focus (intro w hSw; (try dsimp only at hSw); go_simp; try (with_reducible rfl))
                try simp only [Act.put, List.setIfInBounds_toArray, List.set_cons_zero, List.set_cons_succ]
                refine wpAnyH_take (i := 30) (oi := { dst := some 91, op := Op.move (Operand.tmp 13), type := 3, pos := "law.go:183", after := #[{ on := 27, ground := Ground.guard }], guard := some (27, true) }) (v := ?_) rfl (by kernel_rfl) (by kernel_rfl) (by kernel_rfl) (fun _ _ _ h => h) (Or.inl ⟨by rfl, ?_⟩) (by assumption) ?_
                rotate_left
                focus (intro w hSw; (try dsimp only at hSw); go_simp; try (with_reducible rfl))
                try simp only [Act.put, List.setIfInBounds_toArray, List.set_cons_zero, List.set_cons_succ]
                refine wpAnyH_ready (rs := [29]) (by kernel_rfl) (by simp) (AllReadyH.cons (o := { dst := some 90, op := Op.call { callee := Callee.value (Operand.func 29), args := #[Operand.tmp 89], argTypes := #[26] }, type := 3, pos := "law.go:183", after := #[{ on := 28, ground := Ground.data }, { on := 27, ground := Ground.chain }, { on := 27, ground := Ground.guard }], guard := some (27, true) }) rfl (fun K hK => ?_) AllReadyH.nil)
                go_simp
                go_at_call 29
                refine (cursor_any (RQ.q HR3.out)).mono ?_
                rintro e w16 ⟨rfl, rfl⟩
                go_wp2_with fail
                refine hK.out _ _ (RQ.s10 HR3.out) (fun hHeld => ?_)
                clear hK K
                try simp only [Act.put, List.setIfInBounds_toArray, List.set_cons_zero, List.set_cons_succ]
                refine wpAnyH_take (i := 31) (oi := { dst := some 92, op := Op.binOp BinOp.eql 3 (Operand.tmp 90) (Operand.tmp 91) 3, type := 4, pos := "law.go:183", after := #[{ on := 29, ground := Ground.data }, { on := 30, ground := Ground.data }, { on := 27, ground := Ground.guard }], guard := some (27, true) }) (v := ?_) rfl (by kernel_rfl) (by kernel_rfl) (by kernel_rfl) (fun _ _ _ h => h) (Or.inl ⟨by rfl, ?_⟩) (by assumption) ?_
                rotate_left
                focus (intro w hSw; (try dsimp only at hSw); go_simp; try (with_reducible rfl))
                try simp only [Act.put, List.setIfInBounds_toArray, List.set_cons_zero, List.set_cons_succ]
                refine wpAnyH_take (i := 32) (oi := { dst := some 93, op := Op.pick (Operand.tmp 88) (Operand.tmp 92) (Operand.const (Value.bool false)), type := 4, pos := "law.go:183", after := #[{ on := 27, ground := Ground.data }, { on := 31, ground := Ground.data }, { on := 19, ground := Ground.guard }], guard := some (19, false) }) (v := ?_) rfl (by kernel_rfl) (by kernel_rfl) (by kernel_rfl) (fun _ _ _ h => h) (Or.inl ⟨by rfl, ?_⟩) (by assumption) ?_
                rotate_left
                focus (intro w hSw; (try dsimp only at hSw); go_simp; try (with_reducible rfl))
                try simp only [Act.put, List.setIfInBounds_toArray, List.set_cons_zero, List.set_cons_succ]
                refine wpAnyH_take (i := 33) (oi := { dst := some 94, op := Op.binOp BinOp.neq 4 (Operand.tmp 83) (Operand.tmp 93) 4, type := 4, pos := "law.go:183", after := #[{ on := 22, ground := Ground.data }, { on := 32, ground := Ground.data }, { on := 19, ground := Ground.guard }], guard := some (19, false) }) (v := ?_) rfl (by kernel_rfl) (by kernel_rfl) (by kernel_rfl) (fun _ _ _ h => h) (Or.inl ⟨by rfl, ?_⟩) (by assumption) ?_
                rotate_left
                focus (intro w hSw; (try dsimp only at hSw); go_simp; try (with_reducible rfl))
                try simp only [Act.put, List.setIfInBounds_toArray, List.set_cons_zero, List.set_cons_succ]
                refine wpAnyH_take (i := 34) (oi := { dst := some 95, op := Op.pick (Operand.tmp 80) (Operand.const (Value.bool true)) (Operand.tmp 94), type := 4, pos := "law.go:183", after := #[{ on := 19, ground := Ground.data }, { on := 33, ground := Ground.data }], guard := none }) (v := ?_) rfl (by kernel_rfl) (by kernel_rfl) (by kernel_rfl) (fun _ _ _ h => h) (Or.inl ⟨by rfl, ?_⟩) (by assumption) ?_
                rotate_left
                focus (intro w hSw; (try dsimp only at hSw); go_simp; try (with_reducible rfl))
                try simp only [Act.put, List.setIfInBounds_toArray, List.set_cons_zero, List.set_cons_succ]
                refine wpAnyH_done (by kernel_rfl) ?_ _
                go_wp2
                go_meet
                exact ⟨rfl, HR3.out⟩
              · rw [show sameP r c f r c cur M L = false from decide_eq_false fun h => hfc h.2.2.1.symm] at HSX
                have hcf : (cur == f) = false := by simpa using hfc
                have HX1 := Lib.hid (And.intro hyx (And.intro hfc hml))
                clear hyx hfc hml
                refine wp_region_held_drew (S := fun W => W.cell? ⟨o, 3, none⟩ = some (.int .u8 op.x.b) ∧ W.cell? ⟨o, 4, none⟩ = some (.bool op.x.ge) ∧ W.cell? ⟨o, 5, none⟩ = some (.bool op.x.st) ∧ W.cell? ⟨o, 6, none⟩ = some (.int .u8 op.x.li) ∧ W.cell? ⟨o, 7, none⟩ = some (.int .u8 op.x.co) ∧ W.cell? ⟨bf, 0, none⟩ = some (.int .u8 y.b) ∧ W.cell? ⟨bf, 1, none⟩ = some (.bool y.ge) ∧ W.cell? ⟨bf, 2, none⟩ = some (.bool y.st) ∧ W.cell? ⟨bf, 3, none⟩ = some (.int .u8 y.li) ∧ W.cell? ⟨bf, 4, none⟩ = some (.int .u8 y.co) ∧ RQ s w o bf op y r c f cur b g b2 g2 M L W) (by kernel_rfl) (RQ.s10 HR.out.drew) (fun hHeld => ?_)
                refine wpAnyH_take (i := 0) (oi := { dst := some 61, op := Op.move (Operand.tmp 7), type := 26, pos := "law.go:183", after := #[], guard := none }) (v := ?_) rfl (by kernel_rfl) (by kernel_rfl) (by kernel_rfl) (fun _ _ _ h => h) (Or.inl ⟨by rfl, ?_⟩) (by assumption) ?_
                rotate_left
                focus (intro w hSw; (try dsimp only at hSw); go_simp; try (with_reducible rfl))
                try simp only [Act.put, List.setIfInBounds_toArray, List.set_cons_zero, List.set_cons_succ]
                refine wpAnyH_take (i := 1) (oi := { dst := some 62, op := Op.move (Operand.tmp 13), type := 3, pos := "law.go:183", after := #[], guard := none }) (v := ?_) rfl (by kernel_rfl) (by kernel_rfl) (by kernel_rfl) (fun _ _ _ h => h) (Or.inl ⟨by rfl, ?_⟩) (by assumption) ?_
                rotate_left
                focus (intro w hSw; (try dsimp only at hSw); go_simp; try (with_reducible rfl))
                try simp only [Act.put, List.setIfInBounds_toArray, List.set_cons_zero, List.set_cons_succ]
                refine wpAnyH_take (i := 3) (oi := { dst := some 64, op := Op.fieldAddr 38 (Operand.tmp 11) 3, type := 0, pos := "law.go:183", after := #[], guard := none }) (v := ?_) rfl (by kernel_rfl) (by kernel_rfl) (by kernel_rfl) (fun _ _ _ h => h) (Or.inl ⟨by rfl, ?_⟩) (by assumption) ?_
                rotate_left
                focus (intro w hSw; (try dsimp only at hSw); go_simp; try (with_reducible rfl))
                try simp only [Act.put, List.setIfInBounds_toArray, List.set_cons_zero, List.set_cons_succ]
                refine wpAnyH_take (i := 4) (oi := { dst := some 65, op := Op.load 36 (Operand.tmp 64), type := 36, pos := "law.go:183", after := #[{ on := 3, ground := Ground.data }], guard := none }) (v := ?_) rfl (by kernel_rfl) (by kernel_rfl) (by kernel_rfl) (fun _ _ _ h => h) (Or.inl ⟨by rfl, ?_⟩) (by assumption) ?_
                rotate_left
                focus (intro w hSw; (try dsimp only at hSw); go_simp; try (with_reducible rfl))
                try simp only [Act.put, List.setIfInBounds_toArray, List.set_cons_zero, List.set_cons_succ]
                refine wpAnyH_ready (rs := [2]) (by kernel_rfl) (by simp) (AllReadyH.cons (o := { dst := some 63, op := Op.call { callee := Callee.value (Operand.func 19), args := #[Operand.tmp 61, Operand.tmp 62], argTypes := #[26, 3] }, type := 36, pos := "law.go:183", after := #[{ on := 0, ground := Ground.data }, { on := 1, ground := Ground.data }], guard := none }) rfl (fun K hK => ?_) AllReadyH.nil)
                go_simp
                go_at_call 19
                refine (at_is (RQ.p HR.out.drew) HAP.out).mono ?_
                rintro e w12 ⟨rfl, hb12⟩
                have HR1 := Lib.hid (RQ.below HR.out.drew hb12)
                clear hb12
                go_wp2_with fail
                refine hK.out _ _ (RQ.s10 HR1.out) (fun hHeld => ?_)
                clear hK K
                try simp only [Act.put, List.setIfInBounds_toArray, List.set_cons_zero, List.set_cons_succ]
                refine wpAnyH_take (i := 5) (oi := { dst := some 66, op := Op.binOp BinOp.neq 36 (Operand.tmp 63) (Operand.tmp 65) 36, type := 4, pos := "law.go:183", after := #[{ on := 2, ground := Ground.data }, { on := 4, ground := Ground.data }], guard := none }) (v := ?_) rfl (by kernel_rfl) (by kernel_rfl) (by kernel_rfl) (fun _ _ _ h => h) (Or.inl ⟨by rfl, ?_⟩) (by assumption) ?_
                rotate_left
                focus (intro w hSw; (try dsimp only at hSw); go_simp; try (with_reducible rfl))
                try simp only [Act.put, List.setIfInBounds_toArray, List.set_cons_zero, List.set_cons_succ]
                refine wpAnyH_take (i := 6) (oi := { dst := some 67, op := Op.move (Operand.tmp 66), type := 4, pos := "law.go:183", after := #[{ on := 5, ground := Ground.data }, { on := 2, ground := Ground.chain }], guard := none }) (v := ?_) rfl (by kernel_rfl) (by kernel_rfl) (by kernel_rfl) (fun _ _ _ h => h) (Or.inl ⟨by rfl, ?_⟩) (by assumption) ?_
                rotate_left
                focus (intro w hSw; (try dsimp only at hSw); go_simp; try (with_reducible rfl))
                try simp only [Act.put, List.setIfInBounds_toArray, List.set_cons_zero, List.set_cons_succ]
                refine wpAnyH_take (i := 7) (oi := { dst := some 68, op := Op.move (Operand.tmp 12), type := 26, pos := "law.go:183", after := #[{ on := 6, ground := Ground.guard }], guard := some (6, false) }) (v := ?_) rfl (by kernel_rfl) (by kernel_rfl) (by kernel_rfl) (fun _ _ _ h => h) (Or.inl ⟨by rfl, ?_⟩) (by assumption) ?_
                rotate_left
                focus (intro w hSw; (try dsimp only at hSw); go_simp; try (with_reducible rfl))
                try simp only [Act.put, List.setIfInBounds_toArray, List.set_cons_zero, List.set_cons_succ]
                refine wpAnyH_take (i := 8) (oi := { dst := some 69, op := Op.move (Operand.tmp 13), type := 3, pos := "law.go:183", after := #[{ on := 6, ground := Ground.guard }], guard := some (6, false) }) (v := ?_) rfl (by kernel_rfl) (by kernel_rfl) (by kernel_rfl) (fun _ _ _ h => h) (Or.inl ⟨by rfl, ?_⟩) (by assumption) ?_
                rotate_left
                focus (intro w hSw; (try dsimp only at hSw); go_simp; try (with_reducible rfl))
                try simp only [Act.put, List.setIfInBounds_toArray, List.set_cons_zero, List.set_cons_succ]
                refine wpAnyH_take (i := 10) (oi := { dst := some 71, op := Op.load 36 (Operand.tmp 14), type := 36, pos := "law.go:183", after := #[{ on := 6, ground := Ground.guard }], guard := some (6, false) }) (v := ?_) rfl (by kernel_rfl) (by kernel_rfl) (by kernel_rfl) (fun _ _ _ h => h) (Or.inl ⟨by rfl, ?_⟩) (by assumption) ?_
                rotate_left
                focus (intro w hSw; (try dsimp only at hSw); go_simp; try (with_reducible rfl))
                try simp only [Act.put, List.setIfInBounds_toArray, List.set_cons_zero, List.set_cons_succ]
                refine wpAnyH_ready (rs := [9]) (by kernel_rfl) (by simp) (AllReadyH.cons (o := { dst := some 70, op := Op.call { callee := Callee.value (Operand.func 19), args := #[Operand.tmp 68, Operand.tmp 69], argTypes := #[26, 3] }, type := 36, pos := "law.go:183", after := #[{ on := 7, ground := Ground.data }, { on := 8, ground := Ground.data }, { on := 6, ground := Ground.chain }, { on := 6, ground := Ground.guard }], guard := some (6, false) }) rfl (fun K hK => ?_) AllReadyH.nil)
                go_simp
                go_at_call 19
                refine (at_is (RQ.q HR1.out) HY.out).mono ?_
                rintro e w13 ⟨rfl, hb13⟩
                have HR2 := Lib.hid (RQ.below HR1.out hb13)
                clear hb13
                go_wp2_with fail
                refine hK.out _ _ (RQ.s10 HR2.out) (fun hHeld => ?_)
                clear hK K
                try simp only [Act.put, List.setIfInBounds_toArray, List.set_cons_zero, List.set_cons_succ]
                refine wpAnyH_take (i := 11) (oi := { dst := some 72, op := Op.binOp BinOp.neq 36 (Operand.tmp 70) (Operand.tmp 71) 36, type := 4, pos := "law.go:183", after := #[{ on := 9, ground := Ground.data }, { on := 10, ground := Ground.data }, { on := 6, ground := Ground.guard }], guard := some (6, false) }) (v := ?_) rfl (by kernel_rfl) (by kernel_rfl) (by kernel_rfl) (fun _ _ _ h => h) (Or.inl ⟨by rfl, ?_⟩) (by assumption) ?_
                rotate_left
                focus (intro w hSw; (try dsimp only at hSw); go_simp; try (with_reducible rfl))
                try simp only [Act.put, List.setIfInBounds_toArray, List.set_cons_zero, List.set_cons_succ]
                refine wpAnyH_take (i := 12) (oi := { dst := some 73, op := Op.pick (Operand.tmp 67) (Operand.const (Value.bool true)) (Operand.tmp 72), type := 4, pos := "law.go:183", after := #[{ on := 6, ground := Ground.data }, { on := 11, ground := Ground.data }], guard := none }) (v := ?_) rfl (by kernel_rfl) (by kernel_rfl) (by kernel_rfl) (fun _ _ _ h => h) (Or.inl ⟨by rfl, ?_⟩) (by assumption) ?_
                rotate_left
                focus (intro w hSw; (try dsimp only at hSw); go_simp; try (with_reducible rfl))
                try simp only [Act.put, List.setIfInBounds_toArray, List.set_cons_zero, List.set_cons_succ]
                refine wpAnyH_take (i := 13) (oi := { dst := some 74, op := Op.move (Operand.tmp 73), type := 4, pos := "law.go:183", after := #[{ on := 12, ground := Ground.data }, { on := 9, ground := Ground.chain }], guard := none }) (v := ?_) rfl (by kernel_rfl) (by kernel_rfl) (by kernel_rfl) (fun _ _ _ h => h) (Or.inl ⟨by rfl, ?_⟩) (by assumption) ?_
                rotate_left
                focus (intro w hSw; (try dsimp only at hSw); go_simp; try (with_reducible rfl))
                try simp only [Act.put, List.setIfInBounds_toArray, List.set_cons_zero, List.set_cons_succ]
                refine wpAnyH_take (i := 14) (oi := { dst := some 75, op := Op.move (Operand.tmp 7), type := 26, pos := "law.go:183", after := #[{ on := 13, ground := Ground.guard }], guard := some (13, false) }) (v := ?_) rfl (by kernel_rfl) (by kernel_rfl) (by kernel_rfl) (fun _ _ _ h => h) (Or.inl ⟨by rfl, ?_⟩) (by assumption) ?_
                rotate_left
                focus (intro w hSw; (try dsimp only at hSw); go_simp; try (with_reducible rfl))
                try simp only [Act.put, List.setIfInBounds_toArray, List.set_cons_zero, List.set_cons_succ]
                refine wpAnyH_take (i := 16) (oi := { dst := some 77, op := Op.move (Operand.tmp 13), type := 3, pos := "law.go:183", after := #[{ on := 13, ground := Ground.guard }], guard := some (13, false) }) (v := ?_) rfl (by kernel_rfl) (by kernel_rfl) (by kernel_rfl) (fun _ _ _ h => h) (Or.inl ⟨by rfl, ?_⟩) (by assumption) ?_
                rotate_left
                focus (intro w hSw; (try dsimp only at hSw); go_simp; try (with_reducible rfl))
                try simp only [Act.put, List.setIfInBounds_toArray, List.set_cons_zero, List.set_cons_succ]
                refine wpAnyH_ready (rs := [15]) (by kernel_rfl) (by simp) (AllReadyH.cons (o := { dst := some 76, op := Op.call { callee := Callee.value (Operand.func 29), args := #[Operand.tmp 75], argTypes := #[26] }, type := 3, pos := "law.go:183", after := #[{ on := 14, ground := Ground.data }, { on := 13, ground := Ground.chain }, { on := 13, ground := Ground.guard }], guard := some (13, false) }) rfl (fun K hK => ?_) AllReadyH.nil)
                go_simp
                go_at_call 29
                refine (cursor_any (RQ.p HR2.out)).mono ?_
                rintro e w14 ⟨rfl, rfl⟩
                go_wp2_with fail
                refine hK.out _ _ (RQ.s10 HR2.out) (fun hHeld => ?_)
                clear hK K
                try simp only [Act.put, List.setIfInBounds_toArray, List.set_cons_zero, List.set_cons_succ]
                refine wpAnyH_take (i := 17) (oi := { dst := some 78, op := Op.binOp BinOp.neq 3 (Operand.tmp 76) (Operand.tmp 77) 3, type := 4, pos := "law.go:183", after := #[{ on := 15, ground := Ground.data }, { on := 16, ground := Ground.data }, { on := 13, ground := Ground.guard }], guard := some (13, false) }) (v := ?_) rfl (by kernel_rfl) (by kernel_rfl) (by kernel_rfl) (fun _ _ _ h => h) (Or.inl ⟨by rfl, ?_⟩) (by assumption) ?_
                rotate_left
                focus (intro w hSw; (try dsimp only at hSw); go_simp; try (with_reducible rfl))
                try simp only [Act.put, List.setIfInBounds_toArray, List.set_cons_zero, List.set_cons_succ]
                refine wpAnyH_take (i := 18) (oi := { dst := some 79, op := Op.pick (Operand.tmp 74) (Operand.const (Value.bool true)) (Operand.tmp 78), type := 4, pos := "law.go:183", after := #[{ on := 13, ground := Ground.data }, { on := 17, ground := Ground.data }], guard := none }) (v := ?_) rfl (by kernel_rfl) (by kernel_rfl) (by kernel_rfl) (fun _ _ _ h => h) (Or.inl ⟨by rfl, ?_⟩) (by assumption) ?_
                rotate_left
                focus (intro w hSw; (try dsimp only at hSw); go_simp; try (with_reducible rfl))
                try simp only [Act.put, List.setIfInBounds_toArray, List.set_cons_zero, List.set_cons_succ]
                refine wpAnyH_take (i := 19) (oi := { dst := some 80, op := Op.move (Operand.tmp 79), type := 4, pos := "law.go:183", after := #[{ on := 18, ground := Ground.data }, { on := 15, ground := Ground.chain }], guard := none }) (v := ?_) rfl (by kernel_rfl) (by kernel_rfl) (by kernel_rfl) (fun _ _ _ h => h) (Or.inl ⟨by rfl, ?_⟩) (by assumption) ?_
                rotate_left
                focus (intro w hSw; (try dsimp only at hSw); go_simp; try (with_reducible rfl))
                try simp only [Act.put, List.setIfInBounds_toArray, List.set_cons_zero, List.set_cons_succ]
                refine wpAnyH_take (i := 20) (oi := { dst := some 81, op := Op.move (Operand.tmp 7), type := 26, pos := "law.go:183", after := #[{ on := 19, ground := Ground.guard }], guard := some (19, false) }) (v := ?_) rfl (by kernel_rfl) (by kernel_rfl) (by kernel_rfl) (fun _ _ _ h => h) (Or.inl ⟨by rfl, ?_⟩) (by assumption) ?_
                rotate_left
                focus (intro w hSw; (try dsimp only at hSw); go_simp; try (with_reducible rfl))
                try simp only [Act.put, List.setIfInBounds_toArray, List.set_cons_zero, List.set_cons_succ]
                refine wpAnyH_take (i := 21) (oi := { dst := some 82, op := Op.move (Operand.tmp 12), type := 26, pos := "law.go:183", after := #[{ on := 19, ground := Ground.guard }], guard := some (19, false) }) (v := ?_) rfl (by kernel_rfl) (by kernel_rfl) (by kernel_rfl) (fun _ _ _ h => h) (Or.inl ⟨by rfl, ?_⟩) (by assumption) ?_
                rotate_left
                focus (intro w hSw; (try dsimp only at hSw); go_simp; try (with_reducible rfl))
                try simp only [Act.put, List.setIfInBounds_toArray, List.set_cons_zero, List.set_cons_succ]
                refine wpAnyH_take (i := 23) (oi := { dst := some 84, op := Op.load 36 (Operand.tmp 14), type := 36, pos := "law.go:183", after := #[{ on := 19, ground := Ground.guard }], guard := some (19, false) }) (v := ?_) rfl (by kernel_rfl) (by kernel_rfl) (by kernel_rfl) (fun _ _ _ h => h) (Or.inl ⟨by rfl, ?_⟩) (by assumption) ?_
                rotate_left
                focus (intro w hSw; (try dsimp only at hSw); go_simp; try (with_reducible rfl))
                try simp only [Act.put, List.setIfInBounds_toArray, List.set_cons_zero, List.set_cons_succ]
                refine wpAnyH_take (i := 24) (oi := { dst := some 85, op := Op.fieldAddr 38 (Operand.tmp 11) 3, type := 0, pos := "law.go:183", after := #[{ on := 19, ground := Ground.guard }], guard := some (19, false) }) (v := ?_) rfl (by kernel_rfl) (by kernel_rfl) (by kernel_rfl) (fun _ _ _ h => h) (Or.inl ⟨by rfl, ?_⟩) (by assumption) ?_
                rotate_left
                focus (intro w hSw; (try dsimp only at hSw); go_simp; try (with_reducible rfl))
                try simp only [Act.put, List.setIfInBounds_toArray, List.set_cons_zero, List.set_cons_succ]
                refine wpAnyH_take (i := 25) (oi := { dst := some 86, op := Op.load 36 (Operand.tmp 85), type := 36, pos := "law.go:183", after := #[{ on := 24, ground := Ground.data }, { on := 19, ground := Ground.guard }], guard := some (19, false) }) (v := ?_) rfl (by kernel_rfl) (by kernel_rfl) (by kernel_rfl) (fun _ _ _ h => h) (Or.inl ⟨by rfl, ?_⟩) (by assumption) ?_
                rotate_left
                focus (intro w hSw; (try dsimp only at hSw); go_simp; try (with_reducible rfl))
                try simp only [Act.put, List.setIfInBounds_toArray, List.set_cons_zero, List.set_cons_succ]
                refine wpAnyH_take (i := 26) (oi := { dst := some 87, op := Op.binOp BinOp.eql 36 (Operand.tmp 84) (Operand.tmp 86) 36, type := 4, pos := "law.go:183", after := #[{ on := 23, ground := Ground.data }, { on := 25, ground := Ground.data }, { on := 19, ground := Ground.guard }], guard := some (19, false) }) (v := ?_) rfl (by kernel_rfl) (by kernel_rfl) (by kernel_rfl) (fun _ _ _ h => h) (Or.inl ⟨by rfl, ?_⟩) (by assumption) ?_
                rotate_left
                focus (intro w hSw; (try dsimp only at hSw); go_simp; try (with_reducible rfl))
                try simp only [Act.put, List.setIfInBounds_toArray, List.set_cons_zero, List.set_cons_succ]
                refine wpAnyH_ready (rs := [22]) (by kernel_rfl) (by simp) (AllReadyH.cons (o := { dst := some 83, op := Op.call { callee := Callee.value (Operand.func 28), args := #[Operand.tmp 81, Operand.tmp 82], argTypes := #[26, 26] }, type := 4, pos := "law.go:183", after := #[{ on := 20, ground := Ground.data }, { on := 21, ground := Ground.data }, { on := 19, ground := Ground.chain }, { on := 19, ground := Ground.guard }], guard := some (19, false) }) rfl (fun K hK => ?_) AllReadyH.nil)
                go_simp
                go_at_call 28
                refine (HSX.out _ HR2.out).mono ?_
                rintro e w15 ⟨rfl, hb15⟩
                have HR3 := Lib.hid (RQ.below HR2.out hb15)
                clear hb15
                go_wp2_with fail
                refine hK.out _ _ (RQ.s10 HR3.out) (fun hHeld => ?_)
                clear hK K
                try simp only [Act.put, List.setIfInBounds_toArray, List.set_cons_zero, List.set_cons_succ]
                refine wpAnyH_take (i := 27) (oi := { dst := some 88, op := Op.move (Operand.tmp 87), type := 4, pos := "law.go:183", after := #[{ on := 26, ground := Ground.data }, { on := 22, ground := Ground.chain }, { on := 19, ground := Ground.guard }], guard := some (19, false) }) (v := ?_) rfl (by kernel_rfl) (by kernel_rfl) (by kernel_rfl) (fun _ _ _ h => h) (Or.inl ⟨by rfl, ?_⟩) (by assumption) ?_
                rotate_left
                focus (intro w hSw; (try dsimp only at hSw); go_simp; try (with_reducible rfl))
                try simp only [Act.put, List.setIfInBounds_toArray, List.set_cons_zero, List.set_cons_succ]
                refine wpAnyH_take (i := 28) (oi := { dst := some 89, op := Op.move (Operand.tmp 12), type := 26, pos := "law.go:183", after := #[{ on := 27, ground := Ground.guard }], guard := some (27, true) }) (v := ?_) rfl (by kernel_rfl) (by kernel_rfl) (by kernel_rfl) (fun _ _ _ h => h) (Or.inl ⟨by rfl, ?_⟩) (by assumption) ?_
                rotate_left
                focus (intro w hSw; (try dsimp only at hSw); go_simp; try (with_reducible rfl))
                try simp only [Act.put, List.setIfInBounds_toArray, List.set_cons_zero, List.set_cons_succ]
                refine wpAnyH_take (i := 30) (oi := { dst := some 91, op := Op.move (Operand.tmp 13), type := 3, pos := "law.go:183", after := #[{ on := 27, ground := Ground.guard }], guard := some (27, true) }) (v := ?_) rfl (by kernel_rfl) (by kernel_rfl) (by kernel_rfl) (fun _ _ _ h => h) (Or.inl ⟨by rfl, ?_⟩) (by assumption) ?_
                rotate_left
                focus (intro w hSw; (try dsimp only at hSw); go_simp; try (with_reducible rfl))
                try simp only [Act.put, List.setIfInBounds_toArray, List.set_cons_zero, List.set_cons_succ]
                refine wpAnyH_ready (rs := [29]) (by kernel_rfl) (by simp) (AllReadyH.cons (o := { dst := some 90, op := Op.call { callee := Callee.value (Operand.func 29), args := #[Operand.tmp 89], argTypes := #[26] }, type := 3, pos := "law.go:183", after := #[{ on := 28, ground := Ground.data }, { on := 27, ground := Ground.chain }, { on := 27, ground := Ground.guard }], guard := some (27, true) }) rfl (fun K hK => ?_) AllReadyH.nil)
                go_simp
                go_at_call 29
                refine (cursor_any (RQ.q HR3.out)).mono ?_
                rintro e w16 ⟨rfl, rfl⟩
                go_wp2_with fail
                refine hK.out _ _ (RQ.s10 HR3.out) (fun hHeld => ?_)
                clear hK K
                try simp only [Act.put, List.setIfInBounds_toArray, List.set_cons_zero, List.set_cons_succ]
                refine wpAnyH_take (i := 31) (oi := { dst := some 92, op := Op.binOp BinOp.eql 3 (Operand.tmp 90) (Operand.tmp 91) 3, type := 4, pos := "law.go:183", after := #[{ on := 29, ground := Ground.data }, { on := 30, ground := Ground.data }, { on := 27, ground := Ground.guard }], guard := some (27, true) }) (v := ?_) rfl (by kernel_rfl) (by kernel_rfl) (by kernel_rfl) (fun _ _ _ h => h) (Or.inl ⟨by rfl, ?_⟩) (by assumption) ?_
                rotate_left
                focus (intro w hSw; (try dsimp only at hSw); go_simp; try (with_reducible rfl))
                try simp only [Act.put, List.setIfInBounds_toArray, List.set_cons_zero, List.set_cons_succ]
                refine wpAnyH_take (i := 32) (oi := { dst := some 93, op := Op.pick (Operand.tmp 88) (Operand.tmp 92) (Operand.const (Value.bool false)), type := 4, pos := "law.go:183", after := #[{ on := 27, ground := Ground.data }, { on := 31, ground := Ground.data }, { on := 19, ground := Ground.guard }], guard := some (19, false) }) (v := ?_) rfl (by kernel_rfl) (by kernel_rfl) (by kernel_rfl) (fun _ _ _ h => h) (Or.inl ⟨by rfl, ?_⟩) (by assumption) ?_
                rotate_left
                focus (intro w hSw; (try dsimp only at hSw); go_simp; try (with_reducible rfl))
                try simp only [Act.put, List.setIfInBounds_toArray, List.set_cons_zero, List.set_cons_succ]
                refine wpAnyH_take (i := 33) (oi := { dst := some 94, op := Op.binOp BinOp.neq 4 (Operand.tmp 83) (Operand.tmp 93) 4, type := 4, pos := "law.go:183", after := #[{ on := 22, ground := Ground.data }, { on := 32, ground := Ground.data }, { on := 19, ground := Ground.guard }], guard := some (19, false) }) (v := ?_) rfl (by kernel_rfl) (by kernel_rfl) (by kernel_rfl) (fun _ _ _ h => h) (Or.inl ⟨by rfl, ?_⟩) (by assumption) ?_
                rotate_left
                focus (intro w hSw; (try dsimp only at hSw); go_simp; try (with_reducible rfl))
                try simp only [Act.put, List.setIfInBounds_toArray, List.set_cons_zero, List.set_cons_succ]
                refine wpAnyH_take (i := 34) (oi := { dst := some 95, op := Op.pick (Operand.tmp 80) (Operand.const (Value.bool true)) (Operand.tmp 94), type := 4, pos := "law.go:183", after := #[{ on := 19, ground := Ground.data }, { on := 33, ground := Ground.data }], guard := none }) (v := ?_) rfl (by kernel_rfl) (by kernel_rfl) (by kernel_rfl) (fun _ _ _ h => h) (Or.inl ⟨by rfl, ?_⟩) (by assumption) ?_
                rotate_left
                focus (intro w hSw; (try dsimp only at hSw); go_simp; try (with_reducible rfl))
                try simp only [Act.put, List.setIfInBounds_toArray, List.set_cons_zero, List.set_cons_succ]
                refine wpAnyH_done (by kernel_rfl) ?_ _
                go_wp2
                go_meet
                exact ⟨rfl, HR3.out⟩
            · rw [decide_eq_false hyx] at heq
              rw [show sameP r c f r c cur M L = false from decide_eq_false fun h => hyx (HMS.out.1 h.2.2.2)] at HSX
              have HX1 := Lib.hid hyx
              clear hyx
              refine wp_region_held_drew (S := fun W => W.cell? ⟨o, 3, none⟩ = some (.int .u8 op.x.b) ∧ W.cell? ⟨o, 4, none⟩ = some (.bool op.x.ge) ∧ W.cell? ⟨o, 5, none⟩ = some (.bool op.x.st) ∧ W.cell? ⟨o, 6, none⟩ = some (.int .u8 op.x.li) ∧ W.cell? ⟨o, 7, none⟩ = some (.int .u8 op.x.co) ∧ W.cell? ⟨bf, 0, none⟩ = some (.int .u8 y.b) ∧ W.cell? ⟨bf, 1, none⟩ = some (.bool y.ge) ∧ W.cell? ⟨bf, 2, none⟩ = some (.bool y.st) ∧ W.cell? ⟨bf, 3, none⟩ = some (.int .u8 y.li) ∧ W.cell? ⟨bf, 4, none⟩ = some (.int .u8 y.co) ∧ RQ s w o bf op y r c f cur b g b2 g2 M L W) (by kernel_rfl) (RQ.s10 HR.out.drew) (fun hHeld => ?_)
              refine wpAnyH_take (i := 0) (oi := { dst := some 61, op := Op.move (Operand.tmp 7), type := 26, pos := "law.go:183", after := #[], guard := none }) (v := ?_) rfl (by kernel_rfl) (by kernel_rfl) (by kernel_rfl) (fun _ _ _ h => h) (Or.inl ⟨by rfl, ?_⟩) (by assumption) ?_
              rotate_left
              focus (intro w hSw; (try dsimp only at hSw); go_simp; try (with_reducible rfl))
              try simp only [Act.put, List.setIfInBounds_toArray, List.set_cons_zero, List.set_cons_succ]
              refine wpAnyH_take (i := 1) (oi := { dst := some 62, op := Op.move (Operand.tmp 13), type := 3, pos := "law.go:183", after := #[], guard := none }) (v := ?_) rfl (by kernel_rfl) (by kernel_rfl) (by kernel_rfl) (fun _ _ _ h => h) (Or.inl ⟨by rfl, ?_⟩) (by assumption) ?_
              rotate_left
              focus (intro w hSw; (try dsimp only at hSw); go_simp; try (with_reducible rfl))
              try simp only [Act.put, List.setIfInBounds_toArray, List.set_cons_zero, List.set_cons_succ]
              refine wpAnyH_take (i := 3) (oi := { dst := some 64, op := Op.fieldAddr 38 (Operand.tmp 11) 3, type := 0, pos := "law.go:183", after := #[], guard := none }) (v := ?_) rfl (by kernel_rfl) (by kernel_rfl) (by kernel_rfl) (fun _ _ _ h => h) (Or.inl ⟨by rfl, ?_⟩) (by assumption) ?_
              rotate_left
              focus (intro w hSw; (try dsimp only at hSw); go_simp; try (with_reducible rfl))
              try simp only [Act.put, List.setIfInBounds_toArray, List.set_cons_zero, List.set_cons_succ]
              refine wpAnyH_take (i := 4) (oi := { dst := some 65, op := Op.load 36 (Operand.tmp 64), type := 36, pos := "law.go:183", after := #[{ on := 3, ground := Ground.data }], guard := none }) (v := ?_) rfl (by kernel_rfl) (by kernel_rfl) (by kernel_rfl) (fun _ _ _ h => h) (Or.inl ⟨by rfl, ?_⟩) (by assumption) ?_
              rotate_left
              focus (intro w hSw; (try dsimp only at hSw); go_simp; try (with_reducible rfl))
              try simp only [Act.put, List.setIfInBounds_toArray, List.set_cons_zero, List.set_cons_succ]
              refine wpAnyH_ready (rs := [2]) (by kernel_rfl) (by simp) (AllReadyH.cons (o := { dst := some 63, op := Op.call { callee := Callee.value (Operand.func 19), args := #[Operand.tmp 61, Operand.tmp 62], argTypes := #[26, 3] }, type := 36, pos := "law.go:183", after := #[{ on := 0, ground := Ground.data }, { on := 1, ground := Ground.data }], guard := none }) rfl (fun K hK => ?_) AllReadyH.nil)
              go_simp
              go_at_call 19
              refine (at_is (RQ.p HR.out.drew) HAP.out).mono ?_
              rintro e w12 ⟨rfl, hb12⟩
              have HR1 := Lib.hid (RQ.below HR.out.drew hb12)
              clear hb12
              go_wp2_with fail
              refine hK.out _ _ (RQ.s10 HR1.out) (fun hHeld => ?_)
              clear hK K
              try simp only [Act.put, List.setIfInBounds_toArray, List.set_cons_zero, List.set_cons_succ]
              refine wpAnyH_take (i := 5) (oi := { dst := some 66, op := Op.binOp BinOp.neq 36 (Operand.tmp 63) (Operand.tmp 65) 36, type := 4, pos := "law.go:183", after := #[{ on := 2, ground := Ground.data }, { on := 4, ground := Ground.data }], guard := none }) (v := ?_) rfl (by kernel_rfl) (by kernel_rfl) (by kernel_rfl) (fun _ _ _ h => h) (Or.inl ⟨by rfl, ?_⟩) (by assumption) ?_
              rotate_left
              focus (intro w hSw; (try dsimp only at hSw); go_simp; try (with_reducible rfl))
              try simp only [Act.put, List.setIfInBounds_toArray, List.set_cons_zero, List.set_cons_succ]
              refine wpAnyH_take (i := 6) (oi := { dst := some 67, op := Op.move (Operand.tmp 66), type := 4, pos := "law.go:183", after := #[{ on := 5, ground := Ground.data }, { on := 2, ground := Ground.chain }], guard := none }) (v := ?_) rfl (by kernel_rfl) (by kernel_rfl) (by kernel_rfl) (fun _ _ _ h => h) (Or.inl ⟨by rfl, ?_⟩) (by assumption) ?_
              rotate_left
              focus (intro w hSw; (try dsimp only at hSw); go_simp; try (with_reducible rfl))
              try simp only [Act.put, List.setIfInBounds_toArray, List.set_cons_zero, List.set_cons_succ]
              refine wpAnyH_take (i := 7) (oi := { dst := some 68, op := Op.move (Operand.tmp 12), type := 26, pos := "law.go:183", after := #[{ on := 6, ground := Ground.guard }], guard := some (6, false) }) (v := ?_) rfl (by kernel_rfl) (by kernel_rfl) (by kernel_rfl) (fun _ _ _ h => h) (Or.inl ⟨by rfl, ?_⟩) (by assumption) ?_
              rotate_left
              focus (intro w hSw; (try dsimp only at hSw); go_simp; try (with_reducible rfl))
              try simp only [Act.put, List.setIfInBounds_toArray, List.set_cons_zero, List.set_cons_succ]
              refine wpAnyH_take (i := 8) (oi := { dst := some 69, op := Op.move (Operand.tmp 13), type := 3, pos := "law.go:183", after := #[{ on := 6, ground := Ground.guard }], guard := some (6, false) }) (v := ?_) rfl (by kernel_rfl) (by kernel_rfl) (by kernel_rfl) (fun _ _ _ h => h) (Or.inl ⟨by rfl, ?_⟩) (by assumption) ?_
              rotate_left
              focus (intro w hSw; (try dsimp only at hSw); go_simp; try (with_reducible rfl))
              try simp only [Act.put, List.setIfInBounds_toArray, List.set_cons_zero, List.set_cons_succ]
              refine wpAnyH_take (i := 10) (oi := { dst := some 71, op := Op.load 36 (Operand.tmp 14), type := 36, pos := "law.go:183", after := #[{ on := 6, ground := Ground.guard }], guard := some (6, false) }) (v := ?_) rfl (by kernel_rfl) (by kernel_rfl) (by kernel_rfl) (fun _ _ _ h => h) (Or.inl ⟨by rfl, ?_⟩) (by assumption) ?_
              rotate_left
              focus (intro w hSw; (try dsimp only at hSw); go_simp; try (with_reducible rfl))
              try simp only [Act.put, List.setIfInBounds_toArray, List.set_cons_zero, List.set_cons_succ]
              refine wpAnyH_ready (rs := [9]) (by kernel_rfl) (by simp) (AllReadyH.cons (o := { dst := some 70, op := Op.call { callee := Callee.value (Operand.func 19), args := #[Operand.tmp 68, Operand.tmp 69], argTypes := #[26, 3] }, type := 36, pos := "law.go:183", after := #[{ on := 7, ground := Ground.data }, { on := 8, ground := Ground.data }, { on := 6, ground := Ground.chain }, { on := 6, ground := Ground.guard }], guard := some (6, false) }) rfl (fun K hK => ?_) AllReadyH.nil)
              go_simp
              go_at_call 19
              refine (at_is (RQ.q HR1.out) HY.out).mono ?_
              rintro e w13 ⟨rfl, hb13⟩
              have HR2 := Lib.hid (RQ.below HR1.out hb13)
              clear hb13
              go_wp2_with fail
              refine hK.out _ _ (RQ.s10 HR2.out) (fun hHeld => ?_)
              clear hK K
              try simp only [Act.put, List.setIfInBounds_toArray, List.set_cons_zero, List.set_cons_succ]
              refine wpAnyH_take (i := 11) (oi := { dst := some 72, op := Op.binOp BinOp.neq 36 (Operand.tmp 70) (Operand.tmp 71) 36, type := 4, pos := "law.go:183", after := #[{ on := 9, ground := Ground.data }, { on := 10, ground := Ground.data }, { on := 6, ground := Ground.guard }], guard := some (6, false) }) (v := ?_) rfl (by kernel_rfl) (by kernel_rfl) (by kernel_rfl) (fun _ _ _ h => h) (Or.inl ⟨by rfl, ?_⟩) (by assumption) ?_
              rotate_left
              focus (intro w hSw; (try dsimp only at hSw); go_simp; try (with_reducible rfl))
              try simp only [Act.put, List.setIfInBounds_toArray, List.set_cons_zero, List.set_cons_succ]
              refine wpAnyH_take (i := 12) (oi := { dst := some 73, op := Op.pick (Operand.tmp 67) (Operand.const (Value.bool true)) (Operand.tmp 72), type := 4, pos := "law.go:183", after := #[{ on := 6, ground := Ground.data }, { on := 11, ground := Ground.data }], guard := none }) (v := ?_) rfl (by kernel_rfl) (by kernel_rfl) (by kernel_rfl) (fun _ _ _ h => h) (Or.inl ⟨by rfl, ?_⟩) (by assumption) ?_
              rotate_left
              focus (intro w hSw; (try dsimp only at hSw); go_simp; try (with_reducible rfl))
              try simp only [Act.put, List.setIfInBounds_toArray, List.set_cons_zero, List.set_cons_succ]
              refine wpAnyH_take (i := 13) (oi := { dst := some 74, op := Op.move (Operand.tmp 73), type := 4, pos := "law.go:183", after := #[{ on := 12, ground := Ground.data }, { on := 9, ground := Ground.chain }], guard := none }) (v := ?_) rfl (by kernel_rfl) (by kernel_rfl) (by kernel_rfl) (fun _ _ _ h => h) (Or.inl ⟨by rfl, ?_⟩) (by assumption) ?_
              rotate_left
              focus (intro w hSw; (try dsimp only at hSw); go_simp; try (with_reducible rfl))
              try simp only [Act.put, List.setIfInBounds_toArray, List.set_cons_zero, List.set_cons_succ]
              refine wpAnyH_take (i := 14) (oi := { dst := some 75, op := Op.move (Operand.tmp 7), type := 26, pos := "law.go:183", after := #[{ on := 13, ground := Ground.guard }], guard := some (13, false) }) (v := ?_) rfl (by kernel_rfl) (by kernel_rfl) (by kernel_rfl) (fun _ _ _ h => h) (Or.inl ⟨by rfl, ?_⟩) (by assumption) ?_
              rotate_left
              focus (intro w hSw; (try dsimp only at hSw); go_simp; try (with_reducible rfl))
              try simp only [Act.put, List.setIfInBounds_toArray, List.set_cons_zero, List.set_cons_succ]
              refine wpAnyH_take (i := 16) (oi := { dst := some 77, op := Op.move (Operand.tmp 13), type := 3, pos := "law.go:183", after := #[{ on := 13, ground := Ground.guard }], guard := some (13, false) }) (v := ?_) rfl (by kernel_rfl) (by kernel_rfl) (by kernel_rfl) (fun _ _ _ h => h) (Or.inl ⟨by rfl, ?_⟩) (by assumption) ?_
              rotate_left
              focus (intro w hSw; (try dsimp only at hSw); go_simp; try (with_reducible rfl))
              try simp only [Act.put, List.setIfInBounds_toArray, List.set_cons_zero, List.set_cons_succ]
              refine wpAnyH_ready (rs := [15]) (by kernel_rfl) (by simp) (AllReadyH.cons (o := { dst := some 76, op := Op.call { callee := Callee.value (Operand.func 29), args := #[Operand.tmp 75], argTypes := #[26] }, type := 3, pos := "law.go:183", after := #[{ on := 14, ground := Ground.data }, { on := 13, ground := Ground.chain }, { on := 13, ground := Ground.guard }], guard := some (13, false) }) rfl (fun K hK => ?_) AllReadyH.nil)
              go_simp
              go_at_call 29
              refine (cursor_any (RQ.p HR2.out)).mono ?_
              rintro e w14 ⟨rfl, rfl⟩
              go_wp2_with fail
              refine hK.out _ _ (RQ.s10 HR2.out) (fun hHeld => ?_)
              clear hK K
              try simp only [Act.put, List.setIfInBounds_toArray, List.set_cons_zero, List.set_cons_succ]
              refine wpAnyH_take (i := 17) (oi := { dst := some 78, op := Op.binOp BinOp.neq 3 (Operand.tmp 76) (Operand.tmp 77) 3, type := 4, pos := "law.go:183", after := #[{ on := 15, ground := Ground.data }, { on := 16, ground := Ground.data }, { on := 13, ground := Ground.guard }], guard := some (13, false) }) (v := ?_) rfl (by kernel_rfl) (by kernel_rfl) (by kernel_rfl) (fun _ _ _ h => h) (Or.inl ⟨by rfl, ?_⟩) (by assumption) ?_
              rotate_left
              focus (intro w hSw; (try dsimp only at hSw); go_simp; try (with_reducible rfl))
              try simp only [Act.put, List.setIfInBounds_toArray, List.set_cons_zero, List.set_cons_succ]
              refine wpAnyH_take (i := 18) (oi := { dst := some 79, op := Op.pick (Operand.tmp 74) (Operand.const (Value.bool true)) (Operand.tmp 78), type := 4, pos := "law.go:183", after := #[{ on := 13, ground := Ground.data }, { on := 17, ground := Ground.data }], guard := none }) (v := ?_) rfl (by kernel_rfl) (by kernel_rfl) (by kernel_rfl) (fun _ _ _ h => h) (Or.inl ⟨by rfl, ?_⟩) (by assumption) ?_
              rotate_left
              focus (intro w hSw; (try dsimp only at hSw); go_simp; try (with_reducible rfl))
              try simp only [Act.put, List.setIfInBounds_toArray, List.set_cons_zero, List.set_cons_succ]
              refine wpAnyH_take (i := 19) (oi := { dst := some 80, op := Op.move (Operand.tmp 79), type := 4, pos := "law.go:183", after := #[{ on := 18, ground := Ground.data }, { on := 15, ground := Ground.chain }], guard := none }) (v := ?_) rfl (by kernel_rfl) (by kernel_rfl) (by kernel_rfl) (fun _ _ _ h => h) (Or.inl ⟨by rfl, ?_⟩) (by assumption) ?_
              rotate_left
              focus (intro w hSw; (try dsimp only at hSw); go_simp; try (with_reducible rfl))
              try simp only [Act.put, List.setIfInBounds_toArray, List.set_cons_zero, List.set_cons_succ]
              refine wpAnyH_take (i := 20) (oi := { dst := some 81, op := Op.move (Operand.tmp 7), type := 26, pos := "law.go:183", after := #[{ on := 19, ground := Ground.guard }], guard := some (19, false) }) (v := ?_) rfl (by kernel_rfl) (by kernel_rfl) (by kernel_rfl) (fun _ _ _ h => h) (Or.inl ⟨by rfl, ?_⟩) (by assumption) ?_
              rotate_left
              focus (intro w hSw; (try dsimp only at hSw); go_simp; try (with_reducible rfl))
              try simp only [Act.put, List.setIfInBounds_toArray, List.set_cons_zero, List.set_cons_succ]
              refine wpAnyH_take (i := 21) (oi := { dst := some 82, op := Op.move (Operand.tmp 12), type := 26, pos := "law.go:183", after := #[{ on := 19, ground := Ground.guard }], guard := some (19, false) }) (v := ?_) rfl (by kernel_rfl) (by kernel_rfl) (by kernel_rfl) (fun _ _ _ h => h) (Or.inl ⟨by rfl, ?_⟩) (by assumption) ?_
              rotate_left
              focus (intro w hSw; (try dsimp only at hSw); go_simp; try (with_reducible rfl))
              try simp only [Act.put, List.setIfInBounds_toArray, List.set_cons_zero, List.set_cons_succ]
              refine wpAnyH_take (i := 23) (oi := { dst := some 84, op := Op.load 36 (Operand.tmp 14), type := 36, pos := "law.go:183", after := #[{ on := 19, ground := Ground.guard }], guard := some (19, false) }) (v := ?_) rfl (by kernel_rfl) (by kernel_rfl) (by kernel_rfl) (fun _ _ _ h => h) (Or.inl ⟨by rfl, ?_⟩) (by assumption) ?_
              rotate_left
              focus (intro w hSw; (try dsimp only at hSw); go_simp; try (with_reducible rfl))
              try simp only [Act.put, List.setIfInBounds_toArray, List.set_cons_zero, List.set_cons_succ]
              refine wpAnyH_take (i := 24) (oi := { dst := some 85, op := Op.fieldAddr 38 (Operand.tmp 11) 3, type := 0, pos := "law.go:183", after := #[{ on := 19, ground := Ground.guard }], guard := some (19, false) }) (v := ?_) rfl (by kernel_rfl) (by kernel_rfl) (by kernel_rfl) (fun _ _ _ h => h) (Or.inl ⟨by rfl, ?_⟩) (by assumption) ?_
              rotate_left
              focus (intro w hSw; (try dsimp only at hSw); go_simp; try (with_reducible rfl))
              try simp only [Act.put, List.setIfInBounds_toArray, List.set_cons_zero, List.set_cons_succ]
              refine wpAnyH_take (i := 25) (oi := { dst := some 86, op := Op.load 36 (Operand.tmp 85), type := 36, pos := "law.go:183", after := #[{ on := 24, ground := Ground.data }, { on := 19, ground := Ground.guard }], guard := some (19, false) }) (v := ?_) rfl (by kernel_rfl) (by kernel_rfl) (by kernel_rfl) (fun _ _ _ h => h) (Or.inl ⟨by rfl, ?_⟩) (by assumption) ?_
              rotate_left
              focus (intro w hSw; (try dsimp only at hSw); go_simp; try (with_reducible rfl))
              try simp only [Act.put, List.setIfInBounds_toArray, List.set_cons_zero, List.set_cons_succ]
              refine wpAnyH_take (i := 26) (oi := { dst := some 87, op := Op.binOp BinOp.eql 36 (Operand.tmp 84) (Operand.tmp 86) 36, type := 4, pos := "law.go:183", after := #[{ on := 23, ground := Ground.data }, { on := 25, ground := Ground.data }, { on := 19, ground := Ground.guard }], guard := some (19, false) }) (v := ?_) rfl (by kernel_rfl) (by kernel_rfl) (by kernel_rfl) (fun _ _ _ h => h) (Or.inl ⟨by rfl, ?_⟩) (by assumption) ?_
              rotate_left
              focus (intro w hSw; (try dsimp only at hSw); go_simp; try (with_reducible rfl))
              try simp only [Act.put, List.setIfInBounds_toArray, List.set_cons_zero, List.set_cons_succ]
              refine wpAnyH_ready (rs := [22]) (by kernel_rfl) (by simp) (AllReadyH.cons (o := { dst := some 83, op := Op.call { callee := Callee.value (Operand.func 28), args := #[Operand.tmp 81, Operand.tmp 82], argTypes := #[26, 26] }, type := 4, pos := "law.go:183", after := #[{ on := 20, ground := Ground.data }, { on := 21, ground := Ground.data }, { on := 19, ground := Ground.chain }, { on := 19, ground := Ground.guard }], guard := some (19, false) }) rfl (fun K hK => ?_) AllReadyH.nil)
              go_simp
              go_at_call 28
              refine (HSX.out _ HR2.out).mono ?_
              rintro e w15 ⟨rfl, hb15⟩
              have HR3 := Lib.hid (RQ.below HR2.out hb15)
              clear hb15
              go_wp2_with fail
              refine hK.out _ _ (RQ.s10 HR3.out) (fun hHeld => ?_)
              clear hK K
              try simp only [Act.put, List.setIfInBounds_toArray, List.set_cons_zero, List.set_cons_succ]
              refine wpAnyH_take (i := 27) (oi := { dst := some 88, op := Op.move (Operand.tmp 87), type := 4, pos := "law.go:183", after := #[{ on := 26, ground := Ground.data }, { on := 22, ground := Ground.chain }, { on := 19, ground := Ground.guard }], guard := some (19, false) }) (v := ?_) rfl (by kernel_rfl) (by kernel_rfl) (by kernel_rfl) (fun _ _ _ h => h) (Or.inl ⟨by rfl, ?_⟩) (by assumption) ?_
              rotate_left
              focus (intro w hSw; (try dsimp only at hSw); go_simp; try (with_reducible rfl))
              try simp only [Act.put, List.setIfInBounds_toArray, List.set_cons_zero, List.set_cons_succ]
              refine wpAnyH_take (i := 28) (oi := { dst := some 89, op := Op.move (Operand.tmp 12), type := 26, pos := "law.go:183", after := #[{ on := 27, ground := Ground.guard }], guard := some (27, true) }) (v := undef) rfl (by kernel_rfl) (by kernel_rfl) (by kernel_rfl) (fun _ _ _ h => h) (Or.inr ⟨by rfl, rfl⟩) (by assumption) ?_
              try simp only [Act.put, List.setIfInBounds_toArray, List.set_cons_zero, List.set_cons_succ]
              refine wpAnyH_take (i := 29) (oi := { dst := some 90, op := Op.call { callee := Callee.value (Operand.func 29), args := #[Operand.tmp 89], argTypes := #[26] }, type := 3, pos := "law.go:183", after := #[{ on := 28, ground := Ground.data }, { on := 27, ground := Ground.chain }, { on := 27, ground := Ground.guard }], guard := some (27, true) }) (v := undef) rfl (by kernel_rfl) (by kernel_rfl) (by kernel_rfl) (fun _ _ _ h => h) (Or.inr ⟨by rfl, rfl⟩) (by assumption) ?_
              try simp only [Act.put, List.setIfInBounds_toArray, List.set_cons_zero, List.set_cons_succ]
              refine wpAnyH_take (i := 30) (oi := { dst := some 91, op := Op.move (Operand.tmp 13), type := 3, pos := "law.go:183", after := #[{ on := 27, ground := Ground.guard }], guard := some (27, true) }) (v := undef) rfl (by kernel_rfl) (by kernel_rfl) (by kernel_rfl) (fun _ _ _ h => h) (Or.inr ⟨by rfl, rfl⟩) (by assumption) ?_
              try simp only [Act.put, List.setIfInBounds_toArray, List.set_cons_zero, List.set_cons_succ]
              refine wpAnyH_take (i := 31) (oi := { dst := some 92, op := Op.binOp BinOp.eql 3 (Operand.tmp 90) (Operand.tmp 91) 3, type := 4, pos := "law.go:183", after := #[{ on := 29, ground := Ground.data }, { on := 30, ground := Ground.data }, { on := 27, ground := Ground.guard }], guard := some (27, true) }) (v := undef) rfl (by kernel_rfl) (by kernel_rfl) (by kernel_rfl) (fun _ _ _ h => h) (Or.inr ⟨by rfl, rfl⟩) (by assumption) ?_
              try simp only [Act.put, List.setIfInBounds_toArray, List.set_cons_zero, List.set_cons_succ]
              refine wpAnyH_take (i := 32) (oi := { dst := some 93, op := Op.pick (Operand.tmp 88) (Operand.tmp 92) (Operand.const (Value.bool false)), type := 4, pos := "law.go:183", after := #[{ on := 27, ground := Ground.data }, { on := 31, ground := Ground.data }, { on := 19, ground := Ground.guard }], guard := some (19, false) }) (v := ?_) rfl (by kernel_rfl) (by kernel_rfl) (by kernel_rfl) (fun _ _ _ h => h) (Or.inl ⟨by rfl, ?_⟩) (by assumption) ?_
              rotate_left
              focus (intro w hSw; (try dsimp only at hSw); go_simp; try (with_reducible rfl))
              try simp only [Act.put, List.setIfInBounds_toArray, List.set_cons_zero, List.set_cons_succ]
              refine wpAnyH_take (i := 33) (oi := { dst := some 94, op := Op.binOp BinOp.neq 4 (Operand.tmp 83) (Operand.tmp 93) 4, type := 4, pos := "law.go:183", after := #[{ on := 22, ground := Ground.data }, { on := 32, ground := Ground.data }, { on := 19, ground := Ground.guard }], guard := some (19, false) }) (v := ?_) rfl (by kernel_rfl) (by kernel_rfl) (by kernel_rfl) (fun _ _ _ h => h) (Or.inl ⟨by rfl, ?_⟩) (by assumption) ?_
              rotate_left
              focus (intro w hSw; (try dsimp only at hSw); go_simp; try (with_reducible rfl))
              try simp only [Act.put, List.setIfInBounds_toArray, List.set_cons_zero, List.set_cons_succ]
              refine wpAnyH_take (i := 34) (oi := { dst := some 95, op := Op.pick (Operand.tmp 80) (Operand.const (Value.bool true)) (Operand.tmp 94), type := 4, pos := "law.go:183", after := #[{ on := 19, ground := Ground.data }, { on := 33, ground := Ground.data }], guard := none }) (v := ?_) rfl (by kernel_rfl) (by kernel_rfl) (by kernel_rfl) (fun _ _ _ h => h) (Or.inl ⟨by rfl, ?_⟩) (by assumption) ?_
              rotate_left
              focus (intro w hSw; (try dsimp only at hSw); go_simp; try (with_reducible rfl))
              try simp only [Act.put, List.setIfInBounds_toArray, List.set_cons_zero, List.set_cons_succ]
              refine wpAnyH_done (by kernel_rfl) ?_ _
              go_wp2
              go_meet
              exact ⟨rfl, HR3.out⟩
          case rest =>
            obtain ⟨rfl, hrq⟩ := hcut
            have HR5 := Lib.hid hrq
            have hlen := len_any hrq.p
            rw [hMl] at hlen
            have HLN := Lib.hid hlen
            clear hrq hlen HR
            go_wp2_with (go_at_call 20; (with_reducible refine HLN.out.mono ?_); rintro e w7 ⟨rfl, rfl⟩)
            clear HLN
            go_loopw [98] (fun p wq => ∃ j : Nat, j ≤ n ∧ p = .int .i64 j ∧ RQ s w o bf op y r c f cur b g b2 g2 M L wq) (fun p _ => n - (intOf p).toNat)
            case atStart => exact ⟨0, Nat.zero_le _, rfl, HR5.out⟩
            case round =>
              obtain ⟨j, hj, rfl, hrq⟩ := hrel
              have HR6 := Lib.hid hrq
              clear hrq HR5
              by_cases hjn : j < n
              · have hji : (j : Int) < (n : Int) := by omega
                by_cases hjf : (j : Int) = f
                · have hjb : ((j : Int) != f) = false := by simpa using hjf
                  have HJF := Lib.hid hjf
                  clear hjf
                  go_wp2
                  go_roundw
                  case rel => exact ⟨j + 1, by omega, by go_num, HR6.out⟩
                  case measure => simp [intOf]; omega
                · have hjb : ((j : Int) != f) = true := by simpa using hjf
                  obtain ⟨z, hz1⟩ : ∃ z, z = atL L j := ⟨_, rfl⟩
                  have hz2 : z = atL M j := by rw [HM.out, atL_setL L j f op.x (by rw [hLl]; exact hfb), if_neg hjf, hz1]
                  have HZ1 := Lib.hid hz1
                  have HZ2 := Lib.hid hz2
                  have HJF := Lib.hid hjf
                  have hne4 := fun w => run_neq_cl w z z
                  simp only [decide_true, Bool.not_true] at hne4
                  clear hjf hz1 hz2
                  go_wp2_with (go_at_call 19; first | ((with_reducible refine (at_is HR6.out.p HZ2.out).mono ?_); rintro e w20 ⟨rfl, hb20⟩; have HR7 := Lib.hid (HR6.out.below hb20); clear hb20) | ((with_reducible refine (at_is HR7.out.q HZ1.out).mono ?_); rintro e w21 ⟨rfl, hb21⟩; have HR8 := Lib.hid (HR7.out.below hb21); clear hb21))
                  go_roundw
                  case rel => exact ⟨j + 1, by omega, by go_num, HR8.out⟩
                  case measure => simp [intOf]; omega
              · obtain rfl : j = n := by omega
                go_wp2
                go_roundw
                case rel => exact ⟨k + 1, by omega, by go_num, f, M, hMl, HR6.out.p, HR6.out.old, HR6.out.low⟩
                case measure => simp [intOf]; omega
      · obtain rfl : k = m := by omega
        go_wp2
        go_ret
        rw [← HS.out]
        exact ⟨rfl, HOLD.out⟩
theorem planeClones_law {w : World} (hG : Glob w) (r c : Int) {p1 p2 : Prop} (_ : p1) (_ : p2) (v : Value) (L0 : List Cl) (hL : ClsAt w v L0 ∧ L0.length ≤ maxLen ∧ ∀ x ∈ L0, x.Ok) (vo : Value) (O : List Pop) (hO : OpsP w vo O ∧ O.length ≤ maxLen ∧ ∀ p ∈ O, p.x.Ok) :
    Calls Tryd.prog 6 #[.agg #[.int .i64 r, .int .i64 c], v, vo] w fun e W => e = .returned (.bool true) ∧ Below w.heap.size w W :=
  clones_law r c v L0 vo O w hL.1 hL.2.1 hO.1 hG
end Go.Proofs.YtkkcdahfiegopaaDoor.Pl
