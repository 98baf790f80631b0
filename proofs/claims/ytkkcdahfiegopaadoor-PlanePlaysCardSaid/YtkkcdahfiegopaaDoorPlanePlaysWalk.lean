/-
  PlanePlays: the law's walk.
-/
import Derived.Test.YtkkcdahfiegopaaDoorPlV
import Derived.Test.YtkkcdahfiegopaaDoorPlK
import Derived.Test.YtkkcdahfiegopaaDoorPlM
import Derived.Deep.DeepCutAuto
import Derived.Deep.CutRange
namespace Go.Proofs.YtkkcdahfiegopaaDoor.Pl
open Go.RowKit Go.Shelf Base
set_option linter.unusedVariables false
set_option linter.unusedSimpArgs false

theorem vs10 {W : World} {ob q : Nat} {k0 i0 z0 r c cur : Int} {x0 : Cl} {v : Value} (h : W.heap[ob]? = some (.cells #[.int .i64 k0, .int .i64 i0, .int .i64 z0, .int .u8 x0.b, .bool x0.ge, .bool x0.st, .int .u8 x0.li, .int .u8 x0.co] 38 (0, 0)))
    (hx : W.heap[q]? = some (.cells #[.int .i64 r, .int .i64 c, v, .int .i64 cur] 32 (0, 0))) :
    W.cell? ⟨ob, 1, none⟩ = some (.int .i64 i0) ∧ W.cell? ⟨ob, 3, none⟩ = some (.int .u8 x0.b) ∧ W.cell? ⟨ob, 4, none⟩ = some (.bool x0.ge) ∧ W.cell? ⟨ob, 5, none⟩ = some (.bool x0.st) ∧ W.cell? ⟨ob, 6, none⟩ = some (.int .u8 x0.li) ∧ W.cell? ⟨ob, 7, none⟩ = some (.int .u8 x0.co) ∧ W.cell? ⟨q, 0, none⟩ = some (.int .i64 r) ∧ W.cell? ⟨q, 1, none⟩ = some (.int .i64 c) ∧ W.cell? ⟨q, 2, none⟩ = some v ∧ W.cell? ⟨q, 3, none⟩ = some (.int .i64 cur) := by
  obtain ⟨_, a1, _, a3, a4, a5, a6, a7⟩ := blk8 h
  obtain ⟨b0, b1, b2, b3, _⟩ := blk4 hx
  exact ⟨a1, a3, a4, a5, a6, a7, b0, b1, b2, b3⟩
set_option maxRecDepth 100000 in
set_option maxHeartbeats 16000000 in
theorem plays_law (r c : Int) (vo : Value) (O : List Pop) (w : World) (ho : OpsP w vo O) (hG : Glob w) :
    Calls Tryd.prog 3 #[.agg #[.int .i64 r, .int .i64 c], vo] w fun e W => e = .returned (.bool true) ∧ Below w.heap.size w W := by
  obtain ⟨s, hs⟩ : ∃ s, s = w.heap.size := ⟨_, rfl⟩
  have HS := Lib.hid hs
  obtain ⟨W0, hW0⟩ : ∃ W0, W0 = w.alloc (.cells #[.int .i64 r, .int .i64 c] 23) := ⟨_, rfl⟩
  have h0 := heap_alloc_new w (.cells #[.int .i64 r, .int .i64 c] 23)
  have h2 := below_alloc w (.cells #[.int .i64 r, .int .i64 c] 23)
  have hz0 : W0.heap.size = s + 1 := by rw [hW0, World.size_alloc, hs]
  rw [← hW0] at h0 h2
  have HAL := Lib.hid (pl_alive find_k W0 (hG.below h2))
  obtain ⟨ao, capo, rfl, hops⟩ := ho
  obtain ⟨m, hmm⟩ : ∃ m, m = O.length := ⟨_, rfl⟩
  rw [← hmm]
  have HMM := Lib.hid hmm
  have HOP := Lib.hid hops
  rw [← hs] at h0 h2
  have HB0 := Lib.hid h0
  have HB2 := Lib.hid h2
  have HW0 := Lib.hid hW0.symm
  clear h0 h2 hW0 hs hG hops hmm
  go_enter Tryd.func3, Tryd.ntmps3
  go_wp2_with fail
  rw [HW0.out, ← HS.out]
  refine HAL.out.mono ?_
  rintro e w1 ⟨rfl, hb1⟩
  have HB1 := Lib.hid ((hb1.block s (by omega)).trans HB0.out)
  have HO := Lib.hid (HB2.out.trans (hb1.mono (by omega)))
  obtain ⟨q0, q1⟩ := blk2 HB1.out
  have hs1 : s < w1.heap.size := lt_of_block HB1.out
  clear hb1 HB0 HB2 HW0 HAL hz0
  by_cases hm40 : 40 < m
  · have hmi : (40 : Int) < (m : Int) := by omega
    go_wp2
    go_ret
    rw [← HS.out]
    exact ⟨rfl, HO.out⟩
  have hmi : ¬ (40 : Int) < (m : Int) := by omega
  by_cases h200 : (200 : Int) < wrap64 (r * c)
  · go_wp2
    go_ret
    rw [← HS.out]
    exact ⟨rfl, HO.out⟩
  by_cases hc0 : cells r c = 0
  · have HN := Lib.hid (new_no r c w1 hc0)
    have HC0 := Lib.hid hc0
    clear hc0
    go_wp2_with fail
    refine HN.out.mono ?_
    rintro e w2 ⟨rfl, hb2⟩
    have HB2 := Lib.hid ((hb2.block s hs1).trans HB1.out)
    have HO2 := Lib.hid (HO.out.trans (hb2.mono (by omega)))
    obtain ⟨u0, u1⟩ := blk2 HB2.out
    have HR := Lib.hid (rnew_no r c w2 HC0.out)
    have hs2 : s < w2.heap.size := lt_of_block HB2.out
    clear hb2 HB1 HO HN hs1 q0 q1
    go_wp2_with fail
    refine HR.out.mono ?_
    unfold xV
    rintro e w3 ⟨rfl, hb3⟩
    have HO3 := Lib.hid (HO2.out.trans (hb3.mono (by omega)))
    have hs3 : s ≤ w3.heap.size := by have := hb3.size; omega
    clear hb3 HR HO2
    go_wp2
    go_ret
    rw [← HS.out]
    exact ⟨rfl, HO3.out.alloc hs3 _⟩
  · obtain ⟨cb0, cb1⟩ := cells_bd r c
    obtain ⟨n, hcn⟩ : ∃ n : Nat, cells r c = n := ⟨(cells r c).toNat, by omega⟩
    have hn1 : 1 ≤ n := by omega
    have hn2 : n ≤ 4096 := by omega
    have HN := Lib.hid (new_yes r c n w1 hcn hn1 hn2)
    have HC0 := Lib.hid hcn
    clear hc0 cb0 cb1 hcn
    go_wp2_with fail
    refine HN.out.mono ?_
    rintro e w2 ⟨b, g, rfl, P2, hb2, lb, lg⟩
    have HP2 := Lib.hid P2
    have HB2 := Lib.hid ((hb2.block s hs1).trans HB1.out)
    have HO2 := Lib.hid (HO.out.trans (hb2.mono (by omega)))
    obtain ⟨u0, u1⟩ := blk2 HB2.out
    have HR := Lib.hid (rnew_yes r c n w2 HC0.out hn1 hn2)
    have hbl := P2.lt
    have hgl := P2.ltg
    clear hb2 HB1 HO HN q0 q1 P2
    go_wp2_with fail
    refine HR.out.mono ?_
    unfold xV
    rintro e w3 ⟨gx, rfl, R3, hb3, lgx⟩
    have hs2 : s < w2.heap.size := lt_of_block HB2.out
    have HB3 := Lib.hid ((hb3.block s hs2).trans HB2.out)
    have HO3 := Lib.hid (HO2.out.trans (hb3.mono (by omega)))
    have HP3 := Lib.hid (HP2.out.below hb3)
    have HR3 := Lib.hid R3
    have hgx := (R3.lt gx rfl).2
    have hs3 : s < w3.heap.size := lt_of_block HB3.out
    clear hb3 R3 HR HO2 HB2 HP2 u0 u1
    go_wp2_with fail
    have hx4 := heap_alloc_new w3 (.cells #[.int .i64 r, .int .i64 c, .slice (some ⟨gx, 0, none⟩) n n, .int .i64 0] 32)
    have hba := below_alloc w3 (.cells #[.int .i64 r, .int .i64 c, .slice (some ⟨gx, 0, none⟩) n n, .int .i64 0] 32)
    obtain ⟨W4, hW4⟩ : ∃ W4, W4 = w3.alloc (.cells #[.int .i64 r, .int .i64 c, .slice (some ⟨gx, 0, none⟩) n n, .int .i64 0] 32) := ⟨_, rfl⟩
    obtain ⟨q, hq⟩ : ∃ q, q = w3.heap.size := ⟨_, rfl⟩
    rw [← hW4] at hba hx4 ⊢
    rw [← hq] at hx4 ⊢
    have HVQ := Lib.hid (show VQ s q w r c 0 0 b g gx n n (List.replicate n c0) (List.replicate n c0) W4 from
      ⟨(hba.block s hs3).trans HB3.out, hx4, HP3.out.below hba, own_below HR3.out hba, List.length_replicate, HO3.out.trans (hba.mono (by omega)), ⟨by omega, by omega, by omega, by omega, by omega, by omega, by omega, by omega⟩⟩)
    clear hba hx4 hW4 hq HB3 HO3 HP3 HR3 hgx hbl hgl lb lg lgx hs1 hs2 hs3
    go_loopw [50] (fun p wr => ∃ k : Nat, k ≤ m ∧ p = .int .i64 k ∧ ∃ (cur : Int) (gx cap : Nat) (L : List Cl), VQ s q w r c cur cur b g gx n cap L L wr) (fun p _ => m - (intOf p).toNat)
    case atStart => exact ⟨0, Nat.zero_le _, rfl, 0, gx, n, _, HVQ.out⟩
    case round =>
      obtain ⟨k, hk, rfl, cur, gx, cap, L, hvq⟩ := hrel
      have HV := Lib.hid hvq
      clear hvq HVQ
      by_cases hkm : k < m
      · have hkmi : (k : Int) < (m : Int) := by omega
        have hkl : k < O.length := by rw [← HMM.out]; exact hkm
        obtain ⟨gi, off, rfl, hgi, hC⟩ := HOP.out (by intro h; rw [h] at hkl; simp at hkl)
        obtain ⟨⟨k0, i0, z0, x0⟩, hop⟩ : ∃ op, O[k]? = some op := ⟨_, List.getElem?_eq_getElem hkl⟩
        obtain ⟨a0, a1, a2, a3, a4, a5, a6, a7⟩ := hC k ⟨k0, i0, z0, x0⟩ hop
        have hbw : Below w.heap.size w wr := by rw [← HS.out]; exact HV.out.old
        have b0 := cell_later hbw a0
        have b1 := cell_later hbw a1
        have b2' := cell_later hbw a2
        have b3 := cell_later hbw a3
        have b4 := cell_later hbw a4
        have b5 := cell_later hbw a5
        have b6 := cell_later hbw a6
        have b7 := cell_later hbw a7
        dsimp only at b0 b1 b2' b3 b4 b5 b6 b7
        have hblk := HV.out.p.lt
        have hglk := HV.out.p.ltg
        have hqlk := lt_of_block HV.out.bx
        clear a0 a1 a2 a3 a4 a5 a6 a7 hC hbw hop
        go_upto_region 14 with fail
        have ho0 := heap_alloc_new wr (.cells #[.int .i64 k0, .int .i64 i0, .int .i64 z0, .int .u8 x0.b, .bool x0.ge, .bool x0.st, .int .u8 x0.li, .int .u8 x0.co] 38)
        have hba := below_alloc wr (.cells #[.int .i64 k0, .int .i64 i0, .int .i64 z0, .int .u8 x0.b, .bool x0.ge, .bool x0.st, .int .u8 x0.li, .int .u8 x0.co] 38)
        obtain ⟨W1, hW1⟩ : ∃ W1, W1 = wr.alloc (.cells #[.int .i64 k0, .int .i64 i0, .int .i64 z0, .int .u8 x0.b, .bool x0.ge, .bool x0.st, .int .u8 x0.li, .int .u8 x0.co] 38) := ⟨_, rfl⟩
        obtain ⟨ob, hoo⟩ : ∃ ob, ob = wr.heap.size := ⟨_, rfl⟩
        rw [← hW1] at ho0 hba ⊢
        rw [← hoo] at ho0 ⊢
        have HV1 := Lib.hid (HV.out.below hba)
        have HB1 := Lib.hid ho0
        have hob : b < ob ∧ g < ob ∧ q < ob := by omega
        clear hW1 hba hoo ho0 b0 b1 b2' b3 b4 b5 b6 b7 hblk hglk hqlk HV
        obtain ⟨c0', c1', c2', c3', c4', c5', c6', c7'⟩ := blk8 HB1.out
        obtain ⟨hb, hhb⟩ : ∃ hb, hb = decide (0 ≤ i0 ∧ i0 < n) := ⟨_, rfl⟩
        have hhl : hasL L i0 = hb := by rw [hhb, ← HV1.out.len]; rfl
        have HHAS : Hid (∀ X, Calls Tryd.prog 12 #[.agg #[.int .i64 r, .int .i64 c, .slice (some ⟨gx, 0, none⟩) n cap, .int .i64 cur], .int .i64 i0] X fun e W => e = .returned (.bool hb) ∧ Below X.heap.size X W) := by
          intro X
          have := rhas_any r c cur i0 (some ⟨gx, 0, none⟩) n cap X
          rw [← hhb] at this
          exact this
        have HLEN := Lib.hid HV1.out.len
        have HHB := Lib.hid hhb
        have HHL := Lib.hid hhl
        clear hhb hhl
        by_cases h01 : k0 = 0 ∨ k0 = 1
        · have HSET : Hid (∀ X, PlAt X b g r c cur L → Calls Tryd.prog 11 #[.pointer (some ⟨b, 0, none⟩), .int .i64 i0, .agg #[.int .u8 x0.b, .bool x0.ge, .bool x0.st, .int .u8 x0.li, .int .u8 x0.co]] X fun e W' => e = .returned (.bool hb) ∧ PlAt W' b g r c cur (setL L i0 x0) ∧ Turn (At g) X W') := by
            intro X hX
            have := set_any hX i0 x0
            rwa [HHL.out] at this
          have hRS : ∀ X, VQ s q w r c cur cur b g gx n cap (setL L i0 x0) L X → Calls Tryd.prog 13 #[.agg #[.int .i64 r, .int .i64 c, .slice (some ⟨gx, 0, none⟩) n cap, .int .i64 cur], .int .i64 i0, .agg #[.int .u8 x0.b, .bool x0.ge, .bool x0.st, .int .u8 x0.li, .int .u8 x0.co]] X fun e W => ∃ g' cap', e = .returned (.agg #[.int .i64 r, .int .i64 c, .slice (some ⟨g', 0, none⟩) n cap', .int .i64 cur]) ∧ W.ownsRow 0 36 5 (.slice (some ⟨g', 0, none⟩) n cap') n (flatC (setL L i0 x0)) ∧ (g' ≠ b ∧ g' ≠ g ∧ g' ≠ q) ∧ Below X.heap.size X W := by
            intro X hX
            by_cases hh : 0 ≤ i0 ∧ i0 < n
            · refine (rset_any (cur := cur) (r := r) (c := c) (x := x0) hh.1 hh.2 hn2 hX.row hX.len).mono ?_
              rintro e W ⟨g', cap', rfl, h1, h2, h3⟩
              have z1 := hX.p.lt
              have z2 := hX.p.ltg
              have z3 := lt_of_block hX.bx
              exact ⟨g', cap', rfl, h1, ⟨by omega, by omega, by omega⟩, h3⟩
            · refine (rset_no (cur := cur) (r := r) (c := c) (x := x0) (gx := gx) (cap := cap) hh).mono ?_
              rintro e W ⟨rfl, h3⟩
              have hsl : setL L i0 x0 = L := by unfold setL; rw [if_neg (by rw [HLEN.out]; exact hh)]
              obtain ⟨l1, l2, l3, l4, l5, l6, l7, l8⟩ := hX.ne
              rw [hsl]
              exact ⟨gx, cap, rfl, own_below hX.row h3, ⟨l6, l7, l8⟩, h3⟩
          have HRS := Lib.hid hRS
          clear hRS
          rcases h01 with rfl | rfl
          · go_upto_region 17 with fail
            go_cut [69] (fun v wx => v = .bool false ∧ VQ s q w r c cur cur b g gx n cap (setL L i0 x0) L wx ∧ wx.heap[ob]? = some (.cells #[.int .i64 0, .int .i64 i0, .int .i64 z0, .int .u8 x0.b, .bool x0.ge, .bool x0.st, .int .u8 x0.li, .int .u8 x0.co] 38 (0, 0)))
            case first =>
              refine wp_region_held_drew (S := fun W => W.cell? ⟨ob, 1, none⟩ = some (.int .i64 i0) ∧ W.cell? ⟨ob, 3, none⟩ = some (.int .u8 x0.b) ∧ W.cell? ⟨ob, 4, none⟩ = some (.bool x0.ge) ∧ W.cell? ⟨ob, 5, none⟩ = some (.bool x0.st) ∧ W.cell? ⟨ob, 6, none⟩ = some (.int .u8 x0.li) ∧ W.cell? ⟨ob, 7, none⟩ = some (.int .u8 x0.co) ∧ W.cell? ⟨q, 0, none⟩ = some (.int .i64 r) ∧ W.cell? ⟨q, 1, none⟩ = some (.int .i64 c) ∧ W.cell? ⟨q, 2, none⟩ = some (.slice (some ⟨gx, 0, none⟩) n cap) ∧ W.cell? ⟨q, 3, none⟩ = some (.int .i64 cur)) (by kernel_rfl) (vs10 (W := W1.drew) HB1.out HV1.out.bx) (fun hHeld => ?_)
              refine wpAnyH_take (i := 0) (oi := { dst := some 59, op := Op.move (Operand.tmp 5), type := 26, pos := "law.go:68", after := #[], guard := none }) (v := ?_) rfl (by kernel_rfl) (by kernel_rfl) (by kernel_rfl) (fun _ _ _ h => h) (Or.inl ⟨by rfl, ?_⟩) (by assumption) ?_
              rotate_left
              focus (intro w hSw; (try dsimp only at hSw); go_simp; try (with_reducible rfl))
              try simp only [Act.put, List.setIfInBounds_toArray, List.set_cons_zero, List.set_cons_succ]
              refine wpAnyH_take (i := 1) (oi := { dst := some 60, op := Op.fieldAddr 38 (Operand.tmp 10) 1, type := 0, pos := "law.go:68", after := #[], guard := none }) (v := ?_) rfl (by kernel_rfl) (by kernel_rfl) (by kernel_rfl) (fun _ _ _ h => h) (Or.inl ⟨by rfl, ?_⟩) (by assumption) ?_
              rotate_left
              focus (intro w hSw; (try dsimp only at hSw); go_simp; try (with_reducible rfl))
              try simp only [Act.put, List.setIfInBounds_toArray, List.set_cons_zero, List.set_cons_succ]
              refine wpAnyH_take (i := 2) (oi := { dst := some 61, op := Op.load 3 (Operand.tmp 60), type := 3, pos := "law.go:68", after := #[{ on := 1, ground := Ground.data }], guard := none }) (v := ?_) rfl (by kernel_rfl) (by kernel_rfl) (by kernel_rfl) (fun _ _ _ h => h) (Or.inl ⟨by rfl, ?_⟩) (by assumption) ?_
              rotate_left
              focus (intro w hSw; (try dsimp only at hSw); go_simp; try (with_reducible rfl))
              try simp only [Act.put, List.setIfInBounds_toArray, List.set_cons_zero, List.set_cons_succ]
              refine wpAnyH_take (i := 3) (oi := { dst := some 62, op := Op.fieldAddr 38 (Operand.tmp 10) 3, type := 0, pos := "law.go:68", after := #[], guard := none }) (v := ?_) rfl (by kernel_rfl) (by kernel_rfl) (by kernel_rfl) (fun _ _ _ h => h) (Or.inl ⟨by rfl, ?_⟩) (by assumption) ?_
              rotate_left
              focus (intro w hSw; (try dsimp only at hSw); go_simp; try (with_reducible rfl))
              try simp only [Act.put, List.setIfInBounds_toArray, List.set_cons_zero, List.set_cons_succ]
              refine wpAnyH_take (i := 4) (oi := { dst := some 63, op := Op.load 36 (Operand.tmp 62), type := 36, pos := "law.go:68", after := #[{ on := 3, ground := Ground.data }], guard := none }) (v := ?_) rfl (by kernel_rfl) (by kernel_rfl) (by kernel_rfl) (fun _ _ _ h => h) (Or.inl ⟨by rfl, ?_⟩) (by assumption) ?_
              rotate_left
              focus (intro w hSw; (try dsimp only at hSw); go_simp; try (with_reducible rfl))
              try simp only [Act.put, List.setIfInBounds_toArray, List.set_cons_zero, List.set_cons_succ]
              refine wpAnyH_take (i := 6) (oi := { dst := some 65, op := Op.load 32 (Operand.tmp 7), type := 32, pos := "law.go:68", after := #[], guard := none }) (v := ?_) rfl (by kernel_rfl) (by kernel_rfl) (by kernel_rfl) (fun _ _ _ h => h) (Or.inl ⟨by rfl, ?_⟩) (by assumption) ?_
              rotate_left
              focus (intro w hSw; (try dsimp only at hSw); go_simp; try (with_reducible rfl))
              try simp only [Act.put, List.setIfInBounds_toArray, List.set_cons_zero, List.set_cons_succ]
              refine wpAnyH_take (i := 7) (oi := { dst := some 66, op := Op.fieldAddr 38 (Operand.tmp 10) 1, type := 0, pos := "law.go:68", after := #[], guard := none }) (v := ?_) rfl (by kernel_rfl) (by kernel_rfl) (by kernel_rfl) (fun _ _ _ h => h) (Or.inl ⟨by rfl, ?_⟩) (by assumption) ?_
              rotate_left
              focus (intro w hSw; (try dsimp only at hSw); go_simp; try (with_reducible rfl))
              try simp only [Act.put, List.setIfInBounds_toArray, List.set_cons_zero, List.set_cons_succ]
              refine wpAnyH_take (i := 8) (oi := { dst := some 67, op := Op.load 3 (Operand.tmp 66), type := 3, pos := "law.go:68", after := #[{ on := 7, ground := Ground.data }], guard := none }) (v := ?_) rfl (by kernel_rfl) (by kernel_rfl) (by kernel_rfl) (fun _ _ _ h => h) (Or.inl ⟨by rfl, ?_⟩) (by assumption) ?_
              rotate_left
              focus (intro w hSw; (try dsimp only at hSw); go_simp; try (with_reducible rfl))
              try simp only [Act.put, List.setIfInBounds_toArray, List.set_cons_zero, List.set_cons_succ]
              refine wpAnyH_ready (rs := [5]) (by kernel_rfl) (by simp) (AllReadyH.cons (o := { dst := some 64, op := Op.call { callee := Callee.value (Operand.func 11), args := #[Operand.tmp 59, Operand.tmp 61, Operand.tmp 63], argTypes := #[26, 3, 36] }, type := 4, pos := "law.go:68", after := #[{ on := 0, ground := Ground.data }, { on := 2, ground := Ground.data }, { on := 4, ground := Ground.data }], guard := none }) rfl (fun K hK => ?_) AllReadyH.nil)
              go_simp
              go_at_call 11
              refine (HSET.out _ HV1.out.drew.p).mono ?_
              rintro e w5 ⟨rfl, P5, t5⟩
              have HV5 := Lib.hid (VQ.turn HV1.out.drew t5 (fun k hk => .inr hk) P5)
              have HB5 := Lib.hid ((t5.block ob (show ob < W1.drew.heap.size from lt_of_block HB1.out) (by show ob ≠ g; omega)).trans HB1.out)
              clear P5 t5
              go_wp2_with fail
              refine hK.out _ _ (vs10 HB5.out HV5.out.bx) (fun hHeld => ?_)
              clear hK K
              try simp only [Act.put, List.setIfInBounds_toArray, List.set_cons_zero, List.set_cons_succ]
              refine wpAnyH_ready (rs := [9]) (by kernel_rfl) (by simp) (AllReadyH.cons (o := { dst := some 68, op := Op.call { callee := Callee.value (Operand.func 12), args := #[Operand.tmp 65, Operand.tmp 67], argTypes := #[32, 3] }, type := 4, pos := "law.go:68", after := #[{ on := 6, ground := Ground.data }, { on := 8, ground := Ground.data }, { on := 5, ground := Ground.chain }], guard := none }) rfl (fun K hK => ?_) AllReadyH.nil)
              go_simp
              go_at_call 12
              refine (HHAS.out _).mono ?_
              rintro e w6 ⟨rfl, hb6⟩
              have HV6 := Lib.hid (VQ.below HV5.out hb6)
              have HB6 := Lib.hid ((hb6.block ob (lt_of_block HB5.out)).trans HB5.out)
              clear hb6
              go_wp2_with fail
              refine hK.out _ _ (vs10 HB6.out HV6.out.bx) (fun hHeld => ?_)
              clear hK K
              try simp only [Act.put, List.setIfInBounds_toArray, List.set_cons_zero, List.set_cons_succ]
              refine wpAnyH_take (i := 10) (oi := { dst := some 69, op := Op.binOp BinOp.neq 4 (Operand.tmp 64) (Operand.tmp 68) 4, type := 4, pos := "law.go:68", after := #[{ on := 5, ground := Ground.data }, { on := 9, ground := Ground.data }], guard := none }) (v := ?_) rfl (by kernel_rfl) (by kernel_rfl) (by kernel_rfl) (fun _ _ _ h => h) (Or.inl ⟨by rfl, ?_⟩) (by assumption) ?_
              rotate_left
              focus (intro w hSw; (try dsimp only at hSw); go_simp; try (with_reducible rfl))
              try simp only [Act.put, List.setIfInBounds_toArray, List.set_cons_zero, List.set_cons_succ]
              refine wpAnyH_done (by kernel_rfl) ?_ _
              go_wp2
              go_meet
              exact ⟨rfl, HV6.out, HB6.out⟩
            case rest =>
              obtain ⟨rfl, hv6, hb6⟩ := hcut
              have HV6 := Lib.hid hv6
              obtain ⟨d0, d1, d2, d3, d4, d5, d6, d7⟩ := blk8 hb6
              obtain ⟨e0, e1, e2, e3, _⟩ := blk4 hv6.bx
              clear hv6 hb6 c0' c1' c2' c3' c4' c5' c6' c7'
              go_upto_region 34 with (go_at_call 13; (with_reducible refine (HRS.out _ HV6.out).mono ?_); rintro e w7 ⟨g7, cap7, rfl, ho7, hne7, hb7⟩; have HV7 := Lib.hid (HV6.out.below hb7); have HO7 := Lib.hid ho7; obtain ⟨m0, m1, m2, m3, mf⟩ := blk4 HV7.out.bx; clear hb7 ho7)
              have HVf := Lib.hid (HV7.out.put (cur' := cur) HO7.out (by rw [setL_length]; exact HLEN.out) hne7)
              clear m0 m1 m2 m3 mf
              obtain ⟨Wf, hWf⟩ : ∃ Wf, Wf = (((w7.setCell ⟨q, 0, none⟩ (.int .i64 r)).setCell ⟨q, 1, none⟩ (.int .i64 c)).setCell ⟨q, 2, none⟩ (.slice (some ⟨g7, 0, none⟩) n cap7)).setCell ⟨q, 3, none⟩ (.int .i64 cur) := ⟨_, rfl⟩
              rw [← hWf] at HVf ⊢
              clear hWf
              obtain ⟨e0, e1, e2, e3, _⟩ := blk4 HVf.out.bx
              have hsm := lsame_true HVf.out.p HVf.out.row HVf.out.len
              unfold xV at hsm
              have HSM := Lib.hid hsm
              clear hsm
              go_wp2_with (go_at_call 18; (with_reducible refine HSM.out.mono ?_); rintro e wz ⟨rfl, hbz⟩; have HVz := Lib.hid (HVf.out.below hbz); clear hbz)
              go_roundw
              case rel => exact ⟨k + 1, by omega, by go_num, _, _, _, _, HVz.out⟩
              case measure => simp [intOf]; omega
          · go_upto_region 17 with fail
            go_cut [69] (fun v wx => v = .bool false ∧ VQ s q w r c cur cur b g gx n cap (setL L i0 x0) L wx ∧ wx.heap[ob]? = some (.cells #[.int .i64 1, .int .i64 i0, .int .i64 z0, .int .u8 x0.b, .bool x0.ge, .bool x0.st, .int .u8 x0.li, .int .u8 x0.co] 38 (0, 0)))
            case first =>
              refine wp_region_held_drew (S := fun W => W.cell? ⟨ob, 1, none⟩ = some (.int .i64 i0) ∧ W.cell? ⟨ob, 3, none⟩ = some (.int .u8 x0.b) ∧ W.cell? ⟨ob, 4, none⟩ = some (.bool x0.ge) ∧ W.cell? ⟨ob, 5, none⟩ = some (.bool x0.st) ∧ W.cell? ⟨ob, 6, none⟩ = some (.int .u8 x0.li) ∧ W.cell? ⟨ob, 7, none⟩ = some (.int .u8 x0.co) ∧ W.cell? ⟨q, 0, none⟩ = some (.int .i64 r) ∧ W.cell? ⟨q, 1, none⟩ = some (.int .i64 c) ∧ W.cell? ⟨q, 2, none⟩ = some (.slice (some ⟨gx, 0, none⟩) n cap) ∧ W.cell? ⟨q, 3, none⟩ = some (.int .i64 cur)) (by kernel_rfl) (vs10 (W := W1.drew) HB1.out HV1.out.bx) (fun hHeld => ?_)
              refine wpAnyH_take (i := 0) (oi := { dst := some 59, op := Op.move (Operand.tmp 5), type := 26, pos := "law.go:68", after := #[], guard := none }) (v := ?_) rfl (by kernel_rfl) (by kernel_rfl) (by kernel_rfl) (fun _ _ _ h => h) (Or.inl ⟨by rfl, ?_⟩) (by assumption) ?_
              rotate_left
              focus (intro w hSw; (try dsimp only at hSw); go_simp; try (with_reducible rfl))
              try simp only [Act.put, List.setIfInBounds_toArray, List.set_cons_zero, List.set_cons_succ]
              refine wpAnyH_take (i := 1) (oi := { dst := some 60, op := Op.fieldAddr 38 (Operand.tmp 10) 1, type := 0, pos := "law.go:68", after := #[], guard := none }) (v := ?_) rfl (by kernel_rfl) (by kernel_rfl) (by kernel_rfl) (fun _ _ _ h => h) (Or.inl ⟨by rfl, ?_⟩) (by assumption) ?_
              rotate_left
              focus (intro w hSw; (try dsimp only at hSw); go_simp; try (with_reducible rfl))
              try simp only [Act.put, List.setIfInBounds_toArray, List.set_cons_zero, List.set_cons_succ]
              refine wpAnyH_take (i := 2) (oi := { dst := some 61, op := Op.load 3 (Operand.tmp 60), type := 3, pos := "law.go:68", after := #[{ on := 1, ground := Ground.data }], guard := none }) (v := ?_) rfl (by kernel_rfl) (by kernel_rfl) (by kernel_rfl) (fun _ _ _ h => h) (Or.inl ⟨by rfl, ?_⟩) (by assumption) ?_
              rotate_left
              focus (intro w hSw; (try dsimp only at hSw); go_simp; try (with_reducible rfl))
              try simp only [Act.put, List.setIfInBounds_toArray, List.set_cons_zero, List.set_cons_succ]
              refine wpAnyH_take (i := 3) (oi := { dst := some 62, op := Op.fieldAddr 38 (Operand.tmp 10) 3, type := 0, pos := "law.go:68", after := #[], guard := none }) (v := ?_) rfl (by kernel_rfl) (by kernel_rfl) (by kernel_rfl) (fun _ _ _ h => h) (Or.inl ⟨by rfl, ?_⟩) (by assumption) ?_
              rotate_left
              focus (intro w hSw; (try dsimp only at hSw); go_simp; try (with_reducible rfl))
              try simp only [Act.put, List.setIfInBounds_toArray, List.set_cons_zero, List.set_cons_succ]
              refine wpAnyH_take (i := 4) (oi := { dst := some 63, op := Op.load 36 (Operand.tmp 62), type := 36, pos := "law.go:68", after := #[{ on := 3, ground := Ground.data }], guard := none }) (v := ?_) rfl (by kernel_rfl) (by kernel_rfl) (by kernel_rfl) (fun _ _ _ h => h) (Or.inl ⟨by rfl, ?_⟩) (by assumption) ?_
              rotate_left
              focus (intro w hSw; (try dsimp only at hSw); go_simp; try (with_reducible rfl))
              try simp only [Act.put, List.setIfInBounds_toArray, List.set_cons_zero, List.set_cons_succ]
              refine wpAnyH_take (i := 6) (oi := { dst := some 65, op := Op.load 32 (Operand.tmp 7), type := 32, pos := "law.go:68", after := #[], guard := none }) (v := ?_) rfl (by kernel_rfl) (by kernel_rfl) (by kernel_rfl) (fun _ _ _ h => h) (Or.inl ⟨by rfl, ?_⟩) (by assumption) ?_
              rotate_left
              focus (intro w hSw; (try dsimp only at hSw); go_simp; try (with_reducible rfl))
              try simp only [Act.put, List.setIfInBounds_toArray, List.set_cons_zero, List.set_cons_succ]
              refine wpAnyH_take (i := 7) (oi := { dst := some 66, op := Op.fieldAddr 38 (Operand.tmp 10) 1, type := 0, pos := "law.go:68", after := #[], guard := none }) (v := ?_) rfl (by kernel_rfl) (by kernel_rfl) (by kernel_rfl) (fun _ _ _ h => h) (Or.inl ⟨by rfl, ?_⟩) (by assumption) ?_
              rotate_left
              focus (intro w hSw; (try dsimp only at hSw); go_simp; try (with_reducible rfl))
              try simp only [Act.put, List.setIfInBounds_toArray, List.set_cons_zero, List.set_cons_succ]
              refine wpAnyH_take (i := 8) (oi := { dst := some 67, op := Op.load 3 (Operand.tmp 66), type := 3, pos := "law.go:68", after := #[{ on := 7, ground := Ground.data }], guard := none }) (v := ?_) rfl (by kernel_rfl) (by kernel_rfl) (by kernel_rfl) (fun _ _ _ h => h) (Or.inl ⟨by rfl, ?_⟩) (by assumption) ?_
              rotate_left
              focus (intro w hSw; (try dsimp only at hSw); go_simp; try (with_reducible rfl))
              try simp only [Act.put, List.setIfInBounds_toArray, List.set_cons_zero, List.set_cons_succ]
              refine wpAnyH_ready (rs := [5]) (by kernel_rfl) (by simp) (AllReadyH.cons (o := { dst := some 64, op := Op.call { callee := Callee.value (Operand.func 11), args := #[Operand.tmp 59, Operand.tmp 61, Operand.tmp 63], argTypes := #[26, 3, 36] }, type := 4, pos := "law.go:68", after := #[{ on := 0, ground := Ground.data }, { on := 2, ground := Ground.data }, { on := 4, ground := Ground.data }], guard := none }) rfl (fun K hK => ?_) AllReadyH.nil)
              go_simp
              go_at_call 11
              refine (HSET.out _ HV1.out.drew.p).mono ?_
              rintro e w5 ⟨rfl, P5, t5⟩
              have HV5 := Lib.hid (VQ.turn HV1.out.drew t5 (fun k hk => .inr hk) P5)
              have HB5 := Lib.hid ((t5.block ob (show ob < W1.drew.heap.size from lt_of_block HB1.out) (by show ob ≠ g; omega)).trans HB1.out)
              clear P5 t5
              go_wp2_with fail
              refine hK.out _ _ (vs10 HB5.out HV5.out.bx) (fun hHeld => ?_)
              clear hK K
              try simp only [Act.put, List.setIfInBounds_toArray, List.set_cons_zero, List.set_cons_succ]
              refine wpAnyH_ready (rs := [9]) (by kernel_rfl) (by simp) (AllReadyH.cons (o := { dst := some 68, op := Op.call { callee := Callee.value (Operand.func 12), args := #[Operand.tmp 65, Operand.tmp 67], argTypes := #[32, 3] }, type := 4, pos := "law.go:68", after := #[{ on := 6, ground := Ground.data }, { on := 8, ground := Ground.data }, { on := 5, ground := Ground.chain }], guard := none }) rfl (fun K hK => ?_) AllReadyH.nil)
              go_simp
              go_at_call 12
              refine (HHAS.out _).mono ?_
              rintro e w6 ⟨rfl, hb6⟩
              have HV6 := Lib.hid (VQ.below HV5.out hb6)
              have HB6 := Lib.hid ((hb6.block ob (lt_of_block HB5.out)).trans HB5.out)
              clear hb6
              go_wp2_with fail
              refine hK.out _ _ (vs10 HB6.out HV6.out.bx) (fun hHeld => ?_)
              clear hK K
              try simp only [Act.put, List.setIfInBounds_toArray, List.set_cons_zero, List.set_cons_succ]
              refine wpAnyH_take (i := 10) (oi := { dst := some 69, op := Op.binOp BinOp.neq 4 (Operand.tmp 64) (Operand.tmp 68) 4, type := 4, pos := "law.go:68", after := #[{ on := 5, ground := Ground.data }, { on := 9, ground := Ground.data }], guard := none }) (v := ?_) rfl (by kernel_rfl) (by kernel_rfl) (by kernel_rfl) (fun _ _ _ h => h) (Or.inl ⟨by rfl, ?_⟩) (by assumption) ?_
              rotate_left
              focus (intro w hSw; (try dsimp only at hSw); go_simp; try (with_reducible rfl))
              try simp only [Act.put, List.setIfInBounds_toArray, List.set_cons_zero, List.set_cons_succ]
              refine wpAnyH_done (by kernel_rfl) ?_ _
              go_wp2
              go_meet
              exact ⟨rfl, HV6.out, HB6.out⟩
            case rest =>
              obtain ⟨rfl, hv6, hb6⟩ := hcut
              have HV6 := Lib.hid hv6
              obtain ⟨d0, d1, d2, d3, d4, d5, d6, d7⟩ := blk8 hb6
              obtain ⟨e0, e1, e2, e3, _⟩ := blk4 hv6.bx
              clear hv6 hb6 c0' c1' c2' c3' c4' c5' c6' c7'
              go_upto_region 34 with (go_at_call 13; (with_reducible refine (HRS.out _ HV6.out).mono ?_); rintro e w7 ⟨g7, cap7, rfl, ho7, hne7, hb7⟩; have HV7 := Lib.hid (HV6.out.below hb7); have HO7 := Lib.hid ho7; obtain ⟨m0, m1, m2, m3, mf⟩ := blk4 HV7.out.bx; clear hb7 ho7)
              have HVf := Lib.hid (HV7.out.put (cur' := cur) HO7.out (by rw [setL_length]; exact HLEN.out) hne7)
              clear m0 m1 m2 m3 mf
              obtain ⟨Wf, hWf⟩ : ∃ Wf, Wf = (((w7.setCell ⟨q, 0, none⟩ (.int .i64 r)).setCell ⟨q, 1, none⟩ (.int .i64 c)).setCell ⟨q, 2, none⟩ (.slice (some ⟨g7, 0, none⟩) n cap7)).setCell ⟨q, 3, none⟩ (.int .i64 cur) := ⟨_, rfl⟩
              rw [← hWf] at HVf ⊢
              clear hWf
              obtain ⟨e0, e1, e2, e3, _⟩ := blk4 HVf.out.bx
              have hsm := lsame_true HVf.out.p HVf.out.row HVf.out.len
              unfold xV at hsm
              have HSM := Lib.hid hsm
              clear hsm
              go_wp2_with (go_at_call 18; (with_reducible refine HSM.out.mono ?_); rintro e wz ⟨rfl, hbz⟩; have HVz := Lib.hid (HVf.out.below hbz); clear hbz)
              go_roundw
              case rel => exact ⟨k + 1, by omega, by go_num, _, _, _, _, HVz.out⟩
              case measure => simp [intOf]; omega
        · have h0b : (k0 == 0) = false := by simp; omega
          have h1b : (k0 == 1) = false := by simp; omega
          by_cases h2 : k0 = 2
          · subst h2
            have HPT : Hid (∀ X, PlAt X b g r c cur L → Calls Tryd.prog 14 #[.pointer (some ⟨b, 0, none⟩), .int .i64 i0] X fun e W' => e = .returned (.bool hb) ∧ PlAt W' b g r c (if hb = true then i0 else cur) L ∧ Turn (At b) X W') := by
              intro X hX
              have := point_any hX i0
              rwa [HHL.out] at this
            clear h01 h0b h1b
            go_upto_region 21 with fail
            go_cut [86] (fun v wx => v = .bool false ∧ VQ s q w r c cur (if hb = true then i0 else cur) b g gx n cap L L wx ∧ wx.heap[ob]? = some (.cells #[.int .i64 2, .int .i64 i0, .int .i64 z0, .int .u8 x0.b, .bool x0.ge, .bool x0.st, .int .u8 x0.li, .int .u8 x0.co] 38 (0, 0)))
            case first =>
              refine wp_region_held_drew (S := fun W => W.cell? ⟨ob, 1, none⟩ = some (.int .i64 i0) ∧ W.cell? ⟨ob, 3, none⟩ = some (.int .u8 x0.b) ∧ W.cell? ⟨ob, 4, none⟩ = some (.bool x0.ge) ∧ W.cell? ⟨ob, 5, none⟩ = some (.bool x0.st) ∧ W.cell? ⟨ob, 6, none⟩ = some (.int .u8 x0.li) ∧ W.cell? ⟨ob, 7, none⟩ = some (.int .u8 x0.co) ∧ W.cell? ⟨q, 0, none⟩ = some (.int .i64 r) ∧ W.cell? ⟨q, 1, none⟩ = some (.int .i64 c) ∧ W.cell? ⟨q, 2, none⟩ = some (.slice (some ⟨gx, 0, none⟩) n cap) ∧ W.cell? ⟨q, 3, none⟩ = some (.int .i64 cur)) (by kernel_rfl) (vs10 (W := W1.drew) HB1.out HV1.out.bx) (fun hHeld => ?_)
              refine wpAnyH_take (i := 0) (oi := { dst := some 78, op := Op.move (Operand.tmp 5), type := 26, pos := "law.go:73", after := #[], guard := none }) (v := ?_) rfl (by kernel_rfl) (by kernel_rfl) (by kernel_rfl) (fun _ _ _ h => h) (Or.inl ⟨by rfl, ?_⟩) (by assumption) ?_
              rotate_left
              focus (intro w hSw; (try dsimp only at hSw); go_simp; try (with_reducible rfl))
              try simp only [Act.put, List.setIfInBounds_toArray, List.set_cons_zero, List.set_cons_succ]
              refine wpAnyH_take (i := 1) (oi := { dst := some 79, op := Op.fieldAddr 38 (Operand.tmp 10) 1, type := 0, pos := "law.go:73", after := #[], guard := none }) (v := ?_) rfl (by kernel_rfl) (by kernel_rfl) (by kernel_rfl) (fun _ _ _ h => h) (Or.inl ⟨by rfl, ?_⟩) (by assumption) ?_
              rotate_left
              focus (intro w hSw; (try dsimp only at hSw); go_simp; try (with_reducible rfl))
              try simp only [Act.put, List.setIfInBounds_toArray, List.set_cons_zero, List.set_cons_succ]
              refine wpAnyH_take (i := 2) (oi := { dst := some 80, op := Op.load 3 (Operand.tmp 79), type := 3, pos := "law.go:73", after := #[{ on := 1, ground := Ground.data }], guard := none }) (v := ?_) rfl (by kernel_rfl) (by kernel_rfl) (by kernel_rfl) (fun _ _ _ h => h) (Or.inl ⟨by rfl, ?_⟩) (by assumption) ?_
              rotate_left
              focus (intro w hSw; (try dsimp only at hSw); go_simp; try (with_reducible rfl))
              try simp only [Act.put, List.setIfInBounds_toArray, List.set_cons_zero, List.set_cons_succ]
              refine wpAnyH_take (i := 4) (oi := { dst := some 82, op := Op.load 32 (Operand.tmp 7), type := 32, pos := "law.go:73", after := #[], guard := none }) (v := ?_) rfl (by kernel_rfl) (by kernel_rfl) (by kernel_rfl) (fun _ _ _ h => h) (Or.inl ⟨by rfl, ?_⟩) (by assumption) ?_
              rotate_left
              focus (intro w hSw; (try dsimp only at hSw); go_simp; try (with_reducible rfl))
              try simp only [Act.put, List.setIfInBounds_toArray, List.set_cons_zero, List.set_cons_succ]
              refine wpAnyH_take (i := 5) (oi := { dst := some 83, op := Op.fieldAddr 38 (Operand.tmp 10) 1, type := 0, pos := "law.go:73", after := #[], guard := none }) (v := ?_) rfl (by kernel_rfl) (by kernel_rfl) (by kernel_rfl) (fun _ _ _ h => h) (Or.inl ⟨by rfl, ?_⟩) (by assumption) ?_
              rotate_left
              focus (intro w hSw; (try dsimp only at hSw); go_simp; try (with_reducible rfl))
              try simp only [Act.put, List.setIfInBounds_toArray, List.set_cons_zero, List.set_cons_succ]
              refine wpAnyH_take (i := 6) (oi := { dst := some 84, op := Op.load 3 (Operand.tmp 83), type := 3, pos := "law.go:73", after := #[{ on := 5, ground := Ground.data }], guard := none }) (v := ?_) rfl (by kernel_rfl) (by kernel_rfl) (by kernel_rfl) (fun _ _ _ h => h) (Or.inl ⟨by rfl, ?_⟩) (by assumption) ?_
              rotate_left
              focus (intro w hSw; (try dsimp only at hSw); go_simp; try (with_reducible rfl))
              try simp only [Act.put, List.setIfInBounds_toArray, List.set_cons_zero, List.set_cons_succ]
              refine wpAnyH_ready (rs := [3]) (by kernel_rfl) (by simp) (AllReadyH.cons (o := { dst := some 81, op := Op.call { callee := Callee.value (Operand.func 14), args := #[Operand.tmp 78, Operand.tmp 80], argTypes := #[26, 3] }, type := 4, pos := "law.go:73", after := #[{ on := 0, ground := Ground.data }, { on := 2, ground := Ground.data }], guard := none }) rfl (fun K hK => ?_) AllReadyH.nil)
              go_simp
              go_at_call 14
              refine (HPT.out _ HV1.out.drew.p).mono ?_
              rintro e w5 ⟨rfl, P5, t5⟩
              have HV5 := Lib.hid (VQ.turn HV1.out.drew t5 (fun k hk => .inl hk) P5)
              have HB5 := Lib.hid ((t5.block ob (show ob < W1.drew.heap.size from lt_of_block HB1.out) (by show ob ≠ b; omega)).trans HB1.out)
              clear P5 t5
              go_wp2_with fail
              refine hK.out _ _ (vs10 HB5.out HV5.out.bx) (fun hHeld => ?_)
              clear hK K
              try simp only [Act.put, List.setIfInBounds_toArray, List.set_cons_zero, List.set_cons_succ]
              refine wpAnyH_ready (rs := [7]) (by kernel_rfl) (by simp) (AllReadyH.cons (o := { dst := some 85, op := Op.call { callee := Callee.value (Operand.func 12), args := #[Operand.tmp 82, Operand.tmp 84], argTypes := #[32, 3] }, type := 4, pos := "law.go:73", after := #[{ on := 4, ground := Ground.data }, { on := 6, ground := Ground.data }, { on := 3, ground := Ground.chain }], guard := none }) rfl (fun K hK => ?_) AllReadyH.nil)
              go_simp
              go_at_call 12
              refine (HHAS.out _).mono ?_
              rintro e w6 ⟨rfl, hb6⟩
              have HV6 := Lib.hid (VQ.below HV5.out hb6)
              have HB6 := Lib.hid ((hb6.block ob (lt_of_block HB5.out)).trans HB5.out)
              clear hb6
              go_wp2_with fail
              refine hK.out _ _ (vs10 HB6.out HV6.out.bx) (fun hHeld => ?_)
              clear hK K
              try simp only [Act.put, List.setIfInBounds_toArray, List.set_cons_zero, List.set_cons_succ]
              refine wpAnyH_take (i := 8) (oi := { dst := some 86, op := Op.binOp BinOp.neq 4 (Operand.tmp 81) (Operand.tmp 85) 4, type := 4, pos := "law.go:73", after := #[{ on := 3, ground := Ground.data }, { on := 7, ground := Ground.data }], guard := none }) (v := ?_) rfl (by kernel_rfl) (by kernel_rfl) (by kernel_rfl) (fun _ _ _ h => h) (Or.inl ⟨by rfl, ?_⟩) (by assumption) ?_
              rotate_left
              focus (intro w hSw; (try dsimp only at hSw); go_simp; try (with_reducible rfl))
              try simp only [Act.put, List.setIfInBounds_toArray, List.set_cons_zero, List.set_cons_succ]
              refine wpAnyH_done (by kernel_rfl) ?_ _
              go_wp2
              go_meet
              exact ⟨rfl, HV6.out, HB6.out⟩
            case rest =>
              obtain ⟨rfl, hv6, hb6⟩ := hcut
              have HV6 := Lib.hid hv6
              have HB6 := Lib.hid hb6
              obtain ⟨d0, d1, d2, d3, d4, d5, d6, d7⟩ := blk8 hb6
              obtain ⟨e0, e1, e2, e3, _⟩ := blk4 hv6.bx
              clear hv6 hb6 c0' c1' c2' c3' c4' c5' c6' c7' HHB HHL HPT
              cases hb with
              | true =>
                go_upto_region 34 with (go_at_call 12; (with_reducible refine (HHAS.out _).mono ?_); rintro e w7 ⟨rfl, hb7⟩; have HV7 := Lib.hid (HV6.out.below hb7); obtain ⟨j0, j1, j2, j3, j4, j5, j6, j7⟩ := blk8 ((hb7.block ob (lt_of_block HB6.out)).trans HB6.out); obtain ⟨m0, m1, m2, m3, mf⟩ := blk4 HV7.out.bx; clear hb7)
                have hvf := HV7.out.pointed i0
                simp only [if_true] at hvf
                have HVf := Lib.hid hvf
                clear m0 m1 m2 m3 mf j0 j1 j2 j3 j4 j5 j6 j7 hvf
                obtain ⟨Wf, hWf⟩ : ∃ Wf, Wf = w7.setCell ⟨q, 3, none⟩ (.int .i64 i0) := ⟨_, rfl⟩
                rw [← hWf] at HVf ⊢
                clear hWf
                obtain ⟨e0, e1, e2, e3, _⟩ := blk4 HVf.out.bx
                have hsm := lsame_true HVf.out.p HVf.out.row HVf.out.len
                unfold xV at hsm
                have HSM := Lib.hid hsm
                clear hsm
                go_wp2_with (go_at_call 18; (with_reducible refine HSM.out.mono ?_); rintro e wz ⟨rfl, hbz⟩; have HVz := Lib.hid (HVf.out.below hbz); clear hbz)
                go_roundw
                case rel => exact ⟨k + 1, by omega, by go_num, _, _, _, _, HVz.out⟩
                case measure => simp [intOf]; omega
              | false =>
                go_upto_region 34 with (go_at_call 12; (with_reducible refine (HHAS.out _).mono ?_); rintro e w7 ⟨rfl, hb7⟩; have HV7 := Lib.hid (HV6.out.below hb7); clear hb7)
                have hvf := HV7.out
                simp only [Bool.false_eq_true, if_false] at hvf
                have HVf := Lib.hid hvf
                clear hvf
                obtain ⟨e0, e1, e2, e3, _⟩ := blk4 HVf.out.bx
                have hsm := lsame_true HVf.out.p HVf.out.row HVf.out.len
                unfold xV at hsm
                have HSM := Lib.hid hsm
                clear hsm
                go_wp2_with (go_at_call 18; (with_reducible refine HSM.out.mono ?_); rintro e wz ⟨rfl, hbz⟩; have HVz := Lib.hid (HVf.out.below hbz); clear hbz)
                go_roundw
                case rel => exact ⟨k + 1, by omega, by go_num, _, _, _, _, HVz.out⟩
                case measure => simp [intOf]; omega
          · have h2b : (k0 == 2) = false := by simpa using h2
            by_cases h3 : k0 = 3
            · subst h3
              have hfl := fill_any HV1.out.p i0 z0 x0
              rw [HLEN.out] at hfl
              have HFL := Lib.hid hfl
              obtain ⟨e0, e1, e2, e3, _⟩ := blk4 HV1.out.bx
              clear hfl h01 h0b h1b h2 h2b
              go_upto_region 27 with (go_at_call 15; (with_reducible refine HFL.out.mono ?_); rintro e w5 ⟨rfl, P5, t5⟩; have HV5 := Lib.hid (VQ.turn HV1.out t5 (fun k hk => .inr hk) P5); have HB5 := Lib.hid ((t5.block ob (lt_of_block HB1.out) (by show ob ≠ g; omega)).trans HB1.out); clear P5 t5)
              obtain ⟨d0, d1, d2, d3, d4, d5, d6, d7⟩ := blk8 HB5.out
              obtain ⟨f0, f1, f2, f3, _⟩ := blk4 HV5.out.bx
              have HRF := Lib.hid (rfill_any (cur := cur) (x := x0) i0 z0 HC0.out hn1 hn2 HV5.out.row HV5.out.len)
              unfold xV at HRF
              clear e0 e1 e2 e3 c0' c1' c2' c3' c4' c5' c6' c7'
              go_wp2_with fail
              refine HRF.out.mono ?_
              rintro e w7 ⟨g7, cap7, rfl, ho7, hg7, hb7⟩
              have z1 := HV5.out.p.lt
              have z2 := HV5.out.p.ltg
              have z3 := lt_of_block HV5.out.bx
              have hne7 : g7 ≠ b ∧ g7 ≠ g ∧ g7 ≠ q := ⟨by omega, by omega, by omega⟩
              have HV7 := Lib.hid (HV5.out.below hb7)
              have HO7 := Lib.hid ho7
              clear hb7 ho7 hg7 z1 z2 z3 d0 d1 d2 d3 d4 d5 d6 d7 f0 f1 f2 f3
              go_upto_region 28 with fail
              have hba := below_alloc w7 (.cells #[.int .i64 r, .int .i64 c, .slice (some ⟨g7, 0, none⟩) n cap7, .int .i64 cur] 32)
              have hx9 := heap_alloc_new w7 (.cells #[.int .i64 r, .int .i64 c, .slice (some ⟨g7, 0, none⟩) n cap7, .int .i64 cur] 32)
              obtain ⟨W9, hW9⟩ : ∃ W9, W9 = w7.alloc (.cells #[.int .i64 r, .int .i64 c, .slice (some ⟨g7, 0, none⟩) n cap7, .int .i64 cur] 32) := ⟨_, rfl⟩
              rw [← hW9] at hba hx9 ⊢
              have HV9 := Lib.hid (HV7.out.below hba)
              have HO9 := Lib.hid (own_below HO7.out hba)
              obtain ⟨j0, j1, j2, j3, _⟩ := blk4 hx9
              obtain ⟨m0, m1, m2, m3, mf⟩ := blk4 HV9.out.bx
              clear hba hx9 hW9
              go_upto_region 29 with fail
              have HVf := Lib.hid (HV9.out.put (cur' := cur) HO9.out (by rw [fillL_length]; exact HLEN.out) hne7)
              clear m0 m1 m2 m3 mf j0 j1 j2 j3
              obtain ⟨Wf, hWf⟩ : ∃ Wf, Wf = (((W9.setCell ⟨q, 0, none⟩ (.int .i64 r)).setCell ⟨q, 1, none⟩ (.int .i64 c)).setCell ⟨q, 2, none⟩ (.slice (some ⟨g7, 0, none⟩) n cap7)).setCell ⟨q, 3, none⟩ (.int .i64 cur) := ⟨_, rfl⟩
              rw [← hWf] at HVf ⊢
              clear hWf
              obtain ⟨e0, e1, e2, e3, _⟩ := blk4 HVf.out.bx
              have hsm := lsame_true HVf.out.p HVf.out.row HVf.out.len
              unfold xV at hsm
              have HSM := Lib.hid hsm
              clear hsm
              go_wp2_with (go_at_call 18; (with_reducible refine HSM.out.mono ?_); rintro e wz ⟨rfl, hbz⟩; have HVz := Lib.hid (HVf.out.below hbz); clear hbz)
              go_roundw
              case rel => exact ⟨k + 1, by omega, by go_num, _, _, _, _, HVz.out⟩
              case measure => simp [intOf]; omega
            · have h3b : (k0 == 3) = false := by simpa using h3
              by_cases h4 : k0 = 4
              · subst h4
                have HCL := Lib.hid (clear_any HV1.out.p)
                clear h01 h0b h1b h2 h2b h3 h3b
                go_wp2_with fail
                refine HCL.out.mono ?_
                rintro e w5 ⟨⟨v5, rfl⟩, P5, t5⟩
                rw [HLEN.out] at P5
                have HV5 := Lib.hid (VQ.turn HV1.out t5 (fun k hk => hk) P5)
                obtain ⟨f0, f1⟩ := blk2 HV5.out.bs
                have HRN := Lib.hid (rnew_yes r c n w5 HC0.out hn1 hn2)
                unfold xV at HRN
                clear P5 t5 c0' c1' c2' c3' c4' c5' c6' c7'
                go_wp2_with fail
                refine HRN.out.mono ?_
                rintro e w7 ⟨g7, rfl, ho7, hb7, hg7⟩
                have z1 := HV5.out.p.lt
                have z2 := HV5.out.p.ltg
                have z3 := lt_of_block HV5.out.bx
                have hne7 : g7 ≠ b ∧ g7 ≠ g ∧ g7 ≠ q := ⟨by omega, by omega, by omega⟩
                have HV7 := Lib.hid (HV5.out.below hb7)
                have HO7 := Lib.hid ho7
                obtain ⟨m0, m1, m2, m3, mf⟩ := blk4 HV7.out.bx
                clear hb7 ho7 hg7 z1 z2 z3 f0 f1
                go_upto_region 34 with fail
                have HVf := Lib.hid (HV7.out.put (cur' := 0) HO7.out List.length_replicate hne7)
                clear m0 m1 m2 m3 mf
                obtain ⟨Wf, hWf⟩ : ∃ Wf, Wf = (((w7.setCell ⟨q, 0, none⟩ (.int .i64 r)).setCell ⟨q, 1, none⟩ (.int .i64 c)).setCell ⟨q, 2, none⟩ (.slice (some ⟨g7, 0, none⟩) n n)).setCell ⟨q, 3, none⟩ (.int .i64 0) := ⟨_, rfl⟩
                rw [← hWf] at HVf ⊢
                clear hWf
                obtain ⟨e0, e1, e2, e3, _⟩ := blk4 HVf.out.bx
                have hsm := lsame_true HVf.out.p HVf.out.row HVf.out.len
                unfold xV at hsm
                have HSM := Lib.hid hsm
                clear hsm
                go_wp2_with (go_at_call 18; (with_reducible refine HSM.out.mono ?_); rintro e wz ⟨rfl, hbz⟩; have HVz := Lib.hid (HVf.out.below hbz); clear hbz)
                go_roundw
                case rel => exact ⟨k + 1, by omega, by go_num, _, _, _, _, HVz.out⟩
                case measure => simp [intOf]; omega
              · have h4b : (k0 == 4) = false := by simpa using h4
                have HVf := Lib.hid HV1.out
                clear h01 h2 h3 h4
                go_upto_region 34 with fail
                obtain ⟨e0, e1, e2, e3, _⟩ := blk4 HVf.out.bx
                have hsm := lsame_true HVf.out.p HVf.out.row HVf.out.len
                unfold xV at hsm
                have HSM := Lib.hid hsm
                clear hsm
                go_wp2_with (go_at_call 18; (with_reducible refine HSM.out.mono ?_); rintro e wz ⟨rfl, hbz⟩; have HVz := Lib.hid (HVf.out.below hbz); clear hbz)
                go_roundw
                case rel => exact ⟨k + 1, by omega, by go_num, _, _, _, _, HVz.out⟩
                case measure => simp [intOf]; omega
      · obtain rfl : k = m := by omega
        have heqc := fun w => run_eql_cl w c0 c0
        simp only [decide_true] at heqc
        unfold c0 Cl.val at heqc
        have hn0 := HV.out.p.pos
        have HA1 := Lib.hid (at_no HV.out.p (-1) (by simp [hasL]))
        go_wp2_with fail
        refine HA1.out.mono ?_
        rintro e w5 ⟨rfl, hb5⟩
        have HV5 := Lib.hid (HV.out.below hb5)
        have hlen := len_any HV5.out.p
        rw [HV5.out.len] at hlen
        have HLN := Lib.hid hlen
        have HA2 := Lib.hid (at_no HV5.out.p n (by unfold hasL; rw [HV5.out.len]; simp))
        clear hb5 hlen
        go_wp2_with (first | (go_at_call 20; (with_reducible refine HLN.out.mono ?_); rintro e w6 ⟨rfl, rfl⟩) | (go_at_call 19; (with_reducible refine HA2.out.mono ?_); rintro e w7 ⟨rfl, hb7⟩; have HV7 := Lib.hid (HV5.out.below hb7); clear hb7))
        go_ret
        rw [← HS.out]
        exact ⟨rfl, HV7.out.old⟩
theorem planePlays_law {w : World} (hG : Glob w) (r c : Int) {p1 p2 : Prop} (_ : p1) (_ : p2) (vo : Value) (O : List Pop) (hO : OpsP w vo O ∧ O.length ≤ maxLen ∧ ∀ p ∈ O, p.x.Ok) :
    Calls Tryd.prog 3 #[.agg #[.int .i64 r, .int .i64 c], vo] w fun e W => e = .returned (.bool true) ∧ Below w.heap.size w W :=
  plays_law r c vo O w hO.1 hG
end Go.Proofs.YtkkcdahfiegopaaDoor.Pl
