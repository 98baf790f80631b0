/-
  The law's joined: its contract.
-/
import Derived.Test.YtjeknociobbhpaaDoorOrdR
import Derived.BigRegion
namespace Go.Proofs.YtjeknociobbhpaaDoor.Ord
open Go.RowKit Base Iac
set_option linter.unusedVariables false
set_option linter.unusedSimpArgs false

def dsum (L : List Or) : Nat := (L.map fun o => o.data.length).sum
theorem dsum_take (L : List Or) (k : Nat) (q : Or) (h : L[k]? = some q) : dsum (L.take (k + 1)) = dsum (L.take k) + q.data.length := by
  unfold dsum
  rw [List.take_add_one, h]
  simp
theorem dsum_le (L : List Or) (k : Nat) : dsum (L.take k) ≤ dsum L := by
  unfold dsum
  conv => rhs; rw [← List.take_append_drop k L]
  rw [List.map_append, List.sum_append]
  omega
theorem fold_take (L : List Or) (k : Nat) (q : Or) (h : L[k]? = some q) : (L.take (k + 1)).foldl joinStep [] = joinStep ((L.take k).foldl joinStep []) q := by
  rw [List.take_add_one, h, List.foldl_append]
  rfl
theorem jq_nil {s : Nat} {w : World} (h : s ≤ w.heap.size) : JQ s (w.alloc (.cells #[] 35)) (.slice (some ⟨w.heap.size, 0, none⟩) 0 0) [] :=
  ⟨⟨rfl, .inr ⟨w.heap.size, 0, #[], rfl, h, heap_alloc_new w _, by simp, by simp [maxLen], rfl, by simp; rfl⟩⟩, by simp⟩
structure JR (L : List Or) (s : Nat) (w : World) (k : Nat) (v : Value) (wr : World) : Prop where
  ex : ∃ P, JQ s wr v P ∧ P.map (·.1) = (L.take k).foldl joinStep [] ∧ P.length ≤ k ∧ ∀ p ∈ P, p.1.data.length ≤ dsum (L.take k)
  old : Below s w wr
def JRel (L : List Or) (n s : Nat) (w : World) (v i : Value) (wr : World) : Prop := ∃ k : Nat, k ≤ n ∧ i = .int .i64 k ∧ JR L s w k v wr
theorem two_rows {w : World} {u v : Value} {X Y : List Int} (h : RowOf .u8 w u X) (k : RowOf .u8 w v Y) : Rows8 (w.alloc (.cells #[u, v] 22)) (.slice (some ⟨w.heap.size, 0, none⟩) 2 2) [X, Y] := by
  have hb := below_alloc w (.cells #[u, v] 22)
  have hn := heap_alloc_new w (.cells #[u, v] 22)
  refine ⟨_, 2, rfl, fun _ => ⟨w.heap.size, 0, rfl, lt_of_block hn, fun i r hi => ?_⟩⟩
  match i, hi with
  | 0, hi =>
    obtain rfl : X = r := by simpa using hi
    exact ⟨u, by unfold World.cell?; rw [hn]; rfl, h.below hb⟩
  | 1, hi =>
    obtain rfl : Y = r := by simpa using hi
    exact ⟨v, by unfold World.cell?; rw [hn]; rfl, k.below hb⟩
set_option maxRecDepth 100000 in
set_option maxHeartbeats 4000000 in
theorem joined_any (v : Value) (L : List Or) (w : World) (h : OrdsAt w v L) (hm : L.length ≤ 100000) (hds : dsum L ≤ 500000) :
    Calls Tryd.prog 18 #[v] w fun e w' => ∃ u P, e = .returned u ∧ JQ w.heap.size w' u P ∧ P.map (·.1) = joinO L ∧ Below w.heap.size w w' := by
  obtain ⟨i0, hi, hz0, hz1, hz2⟩ := info_parts info_ords
  obtain ⟨s, hs⟩ : ∃ s, s = w.heap.size := ⟨_, rfl⟩
  obtain ⟨a, cap, rfl, hr⟩ := h
  obtain ⟨n, hn⟩ : ∃ n, n = L.length := ⟨_, rfl⟩
  have hq0 := jq_nil (Nat.le_refl w.heap.size)
  have hb0 := below_alloc w (.cells #[] 35)
  obtain ⟨W0, hW0⟩ : ∃ W0, W0 = w.alloc (.cells #[] 35) := ⟨_, rfl⟩
  rw [← hW0, ← hs] at hq0
  rw [← hW0, ← hs] at hb0
  rw [← hn] at hm ⊢
  have HN := Lib.hid hn
  have HR := Lib.hid hr
  have HS := Lib.hid hs
  have HJ0 := Lib.hid (show JR L s w 0 (.slice (some ⟨s, 0, none⟩) 0 0) W0 from ⟨⟨[], hq0, by simp, by simp, by simp⟩, hb0⟩)
  have HW0 := Lib.hid hW0.symm
  have HDS := Lib.hid hds
  rw [← hs]
  clear hr hn hq0 hb0 hW0 hs hds
  go_enter Tryd.func18, Tryd.ntmps18
  go_upto_region 3 with fail
  rw [HW0.out, ← HS.out]
  go_loopw [3, 10] (fun v i wr => JRel L n s w v i wr) (fun _ i _ => n - (intOf i).toNat)
  case atStart => exact ⟨0, by omega, rfl, HJ0.out⟩
  case round =>
    obtain ⟨k, hk, rfl, hJ⟩ := hrel
    obtain ⟨⟨P, hjq, hPm, hPl, hPd⟩, hold⟩ := hJ
    obtain ⟨va, vc, rfl⟩ := hjq.form
    by_cases hkn : k < n
    · have hkni : (k : Int) < (n : Int) := by omega
      have hk0 : (0 : Int) ≤ (k : Int) := Int.natCast_nonneg _
      obtain ⟨q, hq⟩ : ∃ q, L[k]? = some q := ⟨_, List.getElem?_eq_getElem (by rw [← HN.out]; exact hkn)⟩
      obtain ⟨g, off, rfl, hg, hc⟩ := HR.out (by intro e; rw [e] at hq; simp at hq)
      obtain ⟨vp, vd, hcell, hpp, hpd⟩ := hc k q hq
      have hold' : Below w.heap.size w wr := by rw [← HS.out]; exact hold
      obtain ⟨d0, d1, d2, d3, d4, d5⟩ := OC.below hcell hold'
      have hlow : PrLow s wr vp q.pairs := by
        rw [HS.out]
        exact hpp.low.keep fun g hg hl => hold'.block g hg
      have hrow : RowIn (fun k => k < s) .u8 wr vd q.data := by
        rw [HS.out]
        exact hpd.lowK.below hold'
      obtain ⟨pa, pc, rfl⟩ := hlow.form
      obtain ⟨da, dc, rfl⟩ : ∃ da dc, vd = .slice da q.data.length dc := by
        obtain ⟨a', c', e, _⟩ := hrow
        exact ⟨a', c', e⟩
      have hft := fold_take L k q hq
      rw [← hPm] at hft
      have hdt := dsum_take L k q hq
      have hdl := dsum_le L (k + 1)
      obtain ⟨qk, qa, qb, qg, qp, qd⟩ := q
      simp only at d0 d1 d2 d3 d4 d5 hlow hrow hdt ⊢
      obtain ⟨pn, hpn⟩ : ∃ pn, pn = qp.length := ⟨_, rfl⟩
      obtain ⟨dn, hdn⟩ : ∃ dn, dn = qd.length := ⟨_, rfl⟩
      obtain ⟨m, hm2⟩ : ∃ m, m = P.length := ⟨_, rfl⟩
      rw [← hpn] at d4 hlow
      rw [← hdn] at d5 hrow hdt
      rw [← hm2] at hjq hPl ⊢
      have b1 := below_alloc wr (.cells #[.int .u8 qk, .int .i64 qa, .int .u8 qb, .bool qg, .slice pa pn pc, .slice da dn dc] 35)
      have k1 := heap_alloc_new wr (.cells #[.int .u8 qk, .int .i64 qa, .int .u8 qb, .bool qg, .slice pa pn pc, .slice da dn dc] 35)
      obtain ⟨W1, hW1⟩ : ∃ W1, W1 = wr.alloc (.cells #[.int .u8 qk, .int .i64 qa, .int .u8 qb, .bool qg, .slice pa pn pc, .slice da dn dc] 35) := ⟨_, rfl⟩
      obtain ⟨ob, hob⟩ : ∃ ob, ob = wr.heap.size := ⟨_, rfl⟩
      rw [← hW1] at b1 k1
      rw [← hob] at k1
      have HLT : Hid (∀ g, va = some ⟨g, 0, none⟩ → g < ob) := by
        refine Lib.hid fun g e => ?_
        rw [hob]
        rcases hjq.row.2 with ⟨e0, _⟩ | ⟨g', cap', cur, e0, hg', hgb, _⟩
        · injection e0 with e0 _ _
          rw [e] at e0
          cases e0
        · injection e0 with e0 _ _
          rw [e] at e0
          injection e0 with e0
          injection e0 with e0
          rw [e0]
          exact lt_of_block hgb
      have HQ := Lib.hid (hjq.below b1)
      have HPM := Lib.hid hPm
      have HPL := Lib.hid hPl
      have HPD := Lib.hid hPd
      have HFT := Lib.hid hft
      have HDT := Lib.hid hdt
      have HDL := Lib.hid hdl
      have HPN := Lib.hid hpn
      have HDN := Lib.hid hdn
      have HM := Lib.hid hm2
      have HLOW := Lib.hid (hlow.keep fun g hg hl => b1.block g hl)
      have HROW := Lib.hid (hrow.below b1)
      have HOLD := Lib.hid (hold.trans (b1.mono (by have := hold.size; rw [HS.out] at *; exact hold'.size)))
      have HSZ : Hid (s ≤ W1.heap.size) := Lib.hid (by have := b1.size; have := hold'.size; have := HS.out; omega)
      have K1 := Lib.hid k1
      have HW1 := Lib.hid hW1.symm
      have HOB := Lib.hid hob.symm
      have hmi : m ≤ 100000 := by omega
      clear hjq hPm hPl hPd hold hold' hcell hpp hpd hlow hrow hft hdt hdl hpn hdn hm2 b1 hW1 hob hg hc hq HJ0
      go_upto_region 5 with fail
      rw [HW1.out, HOB.out]
      clear d0 d1 d2 d3 d4 d5
      obtain ⟨c0, c1, c2, c3, c4, c5, _⟩ := cells6 k1
      clear k1 HW1
      by_cases hk0' : qk = 0
      · subst hk0'
        by_cases hd0 : dn = 0
        · subst hd0
          have hqd : qd = [] := List.eq_nil_of_length_eq_zero HDN.out.symm
          go_wp2_with fail
          go_roundw
          case rel =>
            refine ⟨k + 1, by omega, by go_num, ⟨P, HQ.out, ?_, by have := HPL.out; have := HM.out; omega, fun p hp => ?_⟩, HOLD.out⟩
            · rw [HFT.out]; unfold joinStep; rw [if_pos ⟨rfl, hqd⟩]
            · rw [HDT.out]; have := HPD.out p hp; omega
          case measure => simp [intOf]; omega
        · have hdi : ((dn : Int) == 0) = false := by simp; omega
          have hqd : ¬ ((0 : Int) = 0 ∧ qd = []) := by rintro ⟨_, e⟩; have := HDN.out; rw [e] at this; exact hd0 this
          have HQD := Lib.hid hqd
          clear hd0 hqd
          rcases List.eq_nil_or_concat P with hP | ⟨Q, p, hP⟩
          · subst hP
            obtain rfl : m = 0 := HM.out
            have hstep : joinStep (([] : List OrdP).map (·.1)) ⟨0, qa, qb, qg, qp, qd⟩ = ([] : List OrdP).map (·.1) ++ [⟨0, qa, qb, qg, qp, qd⟩] := by unfold joinStep; rw [if_neg HQD.out]; rfl
            go_upto_region 6 with fail
            go_wp2_with (at_builtin; refine wpList_append_own _ rfl _ _ 25 rfl s 35 i0 (.agg #[.int .u8 0, .int .i64 0, .int .u8 0, .bool false, .slice none 0 0, .slice none 0 0]) 6 72 Tryd.underlying25 hi hz0 hz1 hz2 rfl (by decide) _ _ _ rfl ((show W1.ownsRow s 35 6 (.slice va 0 vc) 0 (ordC []) by have := HQ.out.row; rw [← HM.out] at this; exact this).alloc _) ⟨W1.heap.size, 0, none⟩ 1 1 [.int .u8 0, .int .i64 qa, .int .u8 qb, .bool qg, .slice pa pn pc, .slice da dn dc] rfl rfl (ord_cl W1 0 qa qb qg _ _) (by simp [Value.oneCell']) (by unfold maxLen; omega) (by omega) (by rw [World.size_alloc]; have := HSZ.out; omega) ?_; intro v' W6 hown' hgrow _; have HOWN := Lib.hid hown'; have HGR := Lib.hid hgrow; clear hown' hgrow)
            have hj6 : JQ s W6 v' ([] ++ [(⟨0, qa, qb, qg, qp, qd⟩, .slice pa pn pc, .slice da dn dc)]) := HQ.out.grown HLOW.out HROW.out (by rw [← HM.out]; exact HOWN.out) HGR.out
            have hb6 : Below s w W6 := (HOLD.out.alloc HSZ.out _).grown HGR.out (by rw [World.size_alloc]; have := HSZ.out; omega) (fun r e => row_first HQ.out.row r e)
            go_roundw
            case rel =>
              refine ⟨k + 1, by omega, by go_num, ⟨_, hj6, ?_, by have h1 := HPL.out; have h2 := HM.out; rw [List.length_append, ← h2]; exact Nat.succ_le_succ h1, fun p hp => ?_⟩, hb6⟩
              · rw [HFT.out, hstep]; simp
              · rw [HDT.out]
                rcases List.mem_append.1 hp with hp | hp
                · have := HPD.out p hp; omega
                · rw [List.mem_singleton.1 hp]; have := HDN.out; show qd.length ≤ _; omega
            case measure => simp [intOf]; omega
          · rw [List.concat_eq_append] at hP
            subst hP
            obtain ⟨p, pv, pu⟩ := p
            obtain ⟨t, ht⟩ : ∃ t, t = Q.length := ⟨_, rfl⟩
            have hmt : m = t + 1 := by have := HM.out; rw [List.length_append] at this; simp at this; omega
            subst hmt
            have HT := Lib.hid ht
            have hmi' : ((t : Int) + 1) - 1 = t := by omega
            have ht0 : (0 : Int) ≤ (t : Int) := Int.natCast_nonneg _
            have hb1 : (t : Int) < ((t + 1 : Nat) : Int) := by omega
            have hb2 : (t : Int) < (t : Int) + 1 := by omega
            obtain ⟨gg, rfl⟩ : ∃ gg, va = some ⟨gg, 0, none⟩ := by
              rcases HQ.out.row.2 with ⟨e, h0⟩ | ⟨g', cap', cur, e, _⟩
              · simp at h0
              · injection e with e _ _; exact ⟨g', e⟩
            have hpget : (Q ++ [(p, pv, pu)])[t]? = some (p, pv, pu) := by rw [ht]; simp
            obtain ⟨f0, _, _, _, _, f5⟩ := ordC_get _ t _ hpget
            have hrowQ : W1.ownsRow s 35 6 (.slice (some ⟨gg, 0, none⟩) (t + 1) vc) (t + 1) (ordC (Q ++ [(p, pv, pu)])) := by
              have := HQ.out.row
              rw [List.length_append, List.length_singleton, ← ht] at this
              exact this
            have r0 := own_cell hrowQ _ _ f0
            have r5 := own_cell hrowQ _ _ f5
            have HRQ := Lib.hid hrowQ
            have HF5 := Lib.hid f5
            clear ht hpget f0 f5 hrowQ
            simp only at r0 r5
            obtain ⟨hpp, hpb⟩ := HQ.out.own (p, pv, pu) (by simp)
            simp only at hpp hpb
            obtain ⟨ua, uc, rfl⟩ := hpb.form
            have HPB := Lib.hid hpb.row
            have HF5 : Hid ((ordC (Q ++ [(p, pv, .slice ua p.data.length uc)]))[t * 6 + 5]? = some (.slice ua p.data.length uc)) := Lib.hid HF5.out
            clear hpp hpb
            by_cases hpk : p.kind = 0
            · rw [hpk] at r0
              have r5d : W1.drew.cell? ⟨gg, t * 6 + 5, none⟩ = some (.slice ua p.data.length uc) := r5
              have c5d : W1.drew.cell? ⟨ob, 5, none⟩ = some (.slice da dn dc) := c5
              have hgo : gg ≠ ob := Nat.ne_of_lt (HLT.out gg rfl)
              have hao : (⟨gg, t * 6 + 5, none⟩ : Addr) ≠ ⟨ob, 5, none⟩ := fun e => hgo (by injection e)
              have c5a : (W1.alloc (.cells #[.slice ua p.data.length uc, .slice da dn dc] 22)).drew.cell? ⟨ob, 5, none⟩ = some (.slice da dn dc) := ((((Below.refl _ W1).alloc (Nat.le_refl _) _).drew).cell (World.block_lt_of_cell? _ _ c5d)).trans c5d
              go_upto_region 9 with fail
              clear r0 r5 c0 c1 c2 c3 c4 c5
              have HTR : Hid (Rows8 (W1.alloc (.cells #[.slice ua p.data.length uc, .slice da dn dc] 22)).drew (.slice (some ⟨W1.heap.size, 0, none⟩) 2 2) [p.data, qd]) := Lib.hid (two_rows (w := W1.drew) HPB.out HROW.out.row)
              have hwt : IntKind.i64.wrap (t : Int) = (t : Int) := IntWalk.i64_in _ (by have h1 := HPL.out; have h2 := HM.out; simp at h1 h2; omega)
              have hfl : [p.data, qd].flatten.length ≤ 1000000 := by
                have h1 := HPD.out (p, pv, .slice ua p.data.length uc) (by simp)
                have h2 := dsum_le L k
                have h3 := HDS.out
                have h4 := HDT.out
                have h5 := HDL.out
                have h6 := HDN.out
                simp at h1 ⊢
                omega
              have HFL := Lib.hid hfl
              clear hfl
              refine wp_region_held_drew (S := fun Z => Z.cell? ⟨ob, 5, none⟩ = some (.slice da dn dc)) (by kernel_rfl) c5d (fun hHeld => ?_)
              refine wpAnyH_take (i := 0) (oi := { dst := some 47, op := Op.move (Operand.tmp 3), type := 25, pos := "law.go:82", after := #[], guard := none }) (v := ?_) rfl (by kernel_rfl) (by kernel_rfl) (by kernel_rfl) (fun _ _ _ h => h) (Or.inl ⟨by rfl, ?_⟩) (by assumption) ?_
              rotate_left
              focus (intro w hSw; (try dsimp only at hSw); go_simp; try (with_reducible rfl))
              try simp only [Act.put, List.setIfInBounds_toArray, List.set_cons_zero, List.set_cons_succ]
              refine wpAnyH_take (i := 1) (oi := { dst := some 48, op := Op.move (Operand.tmp 6), type := 3, pos := "law.go:82", after := #[], guard := none }) (v := ?_) rfl (by kernel_rfl) (by kernel_rfl) (by kernel_rfl) (fun _ _ _ h => h) (Or.inl ⟨by rfl, ?_⟩) (by assumption) ?_
              rotate_left
              focus (intro w hSw; (try dsimp only at hSw); go_simp; try (with_reducible rfl))
              try simp only [Act.put, List.setIfInBounds_toArray, List.set_cons_zero, List.set_cons_succ]
              refine wpAnyH_take (i := 2) (oi := { dst := some 49, op := Op.binOp BinOp.sub 3 (Operand.tmp 48) (Operand.const (Value.int IntKind.i64 1)) 3, type := 3, pos := "law.go:82", after := #[{ on := 1, ground := Ground.data }], guard := none }) (v := ?_) rfl (by kernel_rfl) (by kernel_rfl) (by kernel_rfl) (fun _ _ _ h => h) (Or.inl ⟨by rfl, ?_⟩) (by assumption) ?_
              rotate_left
              focus (intro w hSw; (try dsimp only at hSw); go_simp; try (with_reducible rfl))
              try simp only [Act.put, List.setIfInBounds_toArray, List.set_cons_zero, List.set_cons_succ]
              refine wpAnyH_take (i := 3) (oi := { dst := some 50, op := Op.move (Operand.tmp 3), type := 25, pos := "law.go:82", after := #[], guard := none }) (v := ?_) rfl (by kernel_rfl) (by kernel_rfl) (by kernel_rfl) (fun _ _ _ h => h) (Or.inl ⟨by rfl, ?_⟩) (by assumption) ?_
              rotate_left
              focus (intro w hSw; (try dsimp only at hSw); go_simp; try (with_reducible rfl))
              try simp only [Act.put, List.setIfInBounds_toArray, List.set_cons_zero, List.set_cons_succ]
              refine wpAnyH_take (i := 4) (oi := { dst := some 51, op := Op.move (Operand.tmp 6), type := 3, pos := "law.go:82", after := #[], guard := none }) (v := ?_) rfl (by kernel_rfl) (by kernel_rfl) (by kernel_rfl) (fun _ _ _ h => h) (Or.inl ⟨by rfl, ?_⟩) (by assumption) ?_
              rotate_left
              focus (intro w hSw; (try dsimp only at hSw); go_simp; try (with_reducible rfl))
              try simp only [Act.put, List.setIfInBounds_toArray, List.set_cons_zero, List.set_cons_succ]
              refine wpAnyH_take (i := 5) (oi := { dst := some 52, op := Op.binOp BinOp.sub 3 (Operand.tmp 51) (Operand.const (Value.int IntKind.i64 1)) 3, type := 3, pos := "law.go:82", after := #[{ on := 4, ground := Ground.data }], guard := none }) (v := ?_) rfl (by kernel_rfl) (by kernel_rfl) (by kernel_rfl) (fun _ _ _ h => h) (Or.inl ⟨by rfl, ?_⟩) (by assumption) ?_
              rotate_left
              focus (intro w hSw; (try dsimp only at hSw); go_simp; try (with_reducible rfl))
              try simp only [Act.put, List.setIfInBounds_toArray, List.set_cons_zero, List.set_cons_succ]
              refine wpAnyH_take (i := 6) (oi := { dst := some 53, op := Op.indexAddr 25 (Operand.tmp 50) (Operand.tmp 52), type := 0, pos := "law.go:82", after := #[{ on := 3, ground := Ground.data }, { on := 5, ground := Ground.data }], guard := none }) (v := ?_) rfl (by kernel_rfl) (by kernel_rfl) (by kernel_rfl) (fun _ _ _ h => h) (Or.inl ⟨by rfl, ?_⟩) (by assumption) ?_
              rotate_left
              focus (intro w hSw; (try dsimp only at hSw); go_simp; try (with_reducible rfl))
              try simp only [Act.put, List.setIfInBounds_toArray, List.set_cons_zero, List.set_cons_succ]
              refine wpAnyH_take (i := 7) (oi := { dst := some 54, op := Op.fieldAddr 35 (Operand.tmp 53) 5, type := 0, pos := "law.go:82", after := #[{ on := 6, ground := Ground.data }], guard := none }) (v := ?_) rfl (by kernel_rfl) (by kernel_rfl) (by kernel_rfl) (fun _ _ _ h => h) (Or.inl ⟨by rfl, ?_⟩) (by assumption) ?_
              rotate_left
              focus (intro w hSw; (try dsimp only at hSw); go_simp; try (with_reducible rfl))
              try simp only [Act.put, List.setIfInBounds_toArray, List.set_cons_zero, List.set_cons_succ]
              refine wpAnyH_take (i := 9) (oi := { dst := some 56, op := Op.fieldAddr 35 (Operand.tmp 5) 5, type := 0, pos := "law.go:82", after := #[], guard := none }) (v := ?_) rfl (by kernel_rfl) (by kernel_rfl) (by kernel_rfl) (fun _ _ _ h => h) (Or.inl ⟨by rfl, ?_⟩) (by assumption) ?_
              rotate_left
              focus (intro w hSw; (try dsimp only at hSw); go_simp; try (with_reducible rfl))
              try simp only [Act.put, List.setIfInBounds_toArray, List.set_cons_zero, List.set_cons_succ]
              refine wpAnyH_take (i := 10) (oi := { dst := some 57, op := Op.load 22 (Operand.tmp 56), type := 22, pos := "law.go:82", after := #[{ on := 9, ground := Ground.data }], guard := none }) (v := ?_) rfl (by kernel_rfl) (by kernel_rfl) (by kernel_rfl) (fun _ _ _ h => h) (Or.inl ⟨by rfl, ?_⟩) (by assumption) ?_
              rotate_left
              focus (intro w hSw; (try dsimp only at hSw); go_simp; try (with_reducible rfl))
              try simp only [Act.put, List.setIfInBounds_toArray, List.set_cons_zero, List.set_cons_succ]
              refine wpAnyH_ready (rs := [8]) (by kernel_rfl) (by simp) (AllReadyH.cons (o := { dst := some 55, op := Op.load 22 (Operand.tmp 54), type := 22, pos := "law.go:82", after := #[{ on := 7, ground := Ground.data }], guard := none }) rfl (fun K hK => ?_) AllReadyH.nil)
              go_simp
              refine hK.out _ _ (c5d) (fun hHeld => ?_)
              clear hK K
              try simp only [Act.put, List.setIfInBounds_toArray, List.set_cons_zero, List.set_cons_succ]
              refine wpAnyH_ready (rs := [11]) (by kernel_rfl) (by simp) (AllReadyH.cons (o := { dst := some 58, op := Op.buildSlice 45 2 #[(0, Operand.tmp 55), (1, Operand.tmp 57)], type := 45, pos := "law.go:82", after := #[{ on := 8, ground := Ground.data }, { on := 10, ground := Ground.data }], guard := none }) rfl (fun K hK => ?_) AllReadyH.nil)
              go_simp
              refine hK.out _ _ (c5a) (fun hHeld => ?_)
              clear hK K
              try simp only [Act.put, List.setIfInBounds_toArray, List.set_cons_zero, List.set_cons_succ]
              refine wpAnyH_ready (rs := [12]) (by kernel_rfl) (by simp) (AllReadyH.cons (o := { dst := some 59, op := Op.call { callee := Callee.value (Operand.func 19), args := #[Operand.tmp 58], argTypes := #[45] }, type := 22, pos := "law.go:82", after := #[{ on := 11, ground := Ground.data }], guard := none }) rfl (fun K hK => ?_) AllReadyH.nil)
              go_simp
              go_at_call 19
              refine (rjoin_any _ _ _ HTR.out (by simp) HFL.out).mono ?_
              rintro e W3 ⟨u', rfl, hown3, b3⟩
              have hsz3 : s ≤ (W1.alloc (.cells #[.slice ua p.data.length uc, .slice da dn dc] 22)).drew.heap.size := by have := HSZ.out; rw [World.size_drew, World.size_alloc]; omega
              have hown4 : OwnBytes s W3 u' (p.data ++ qd) := by simpa using hown3.lower hsz3
              obtain ⟨ja, jc, rfl⟩ := hown4.slice
              rw [List.length_append, ← HDN.out] at hown4 ⊢
              have HO3 := Lib.hid hown4
              have hb13 : Below W1.heap.size W1 W3 := (((Below.refl _ W1).alloc (Nat.le_refl _) _).drew).trans (b3.mono (by simp))
              have hr3 := own_keep HRQ.out (w' := W3) fun g _ _ hl => hb13.block g hl
              have c3 := own_cell hr3 _ _ HF5.out
              have z3 := hr3.frozenAt (t * 6 + 5)
              have c5e : W3.cell? ⟨ob, 5, none⟩ = some (.slice da dn dc) := (hb13.cell (World.block_lt_of_cell? _ _ c5d)).trans c5d
              have HB13 := Lib.hid hb13
              clear hown3 hown4 b3 hb13 hr3
              go_wp2_with fail
              refine hK.out _ _ (c5e) (fun hHeld => ?_)
              clear hK K
              try simp only [Act.put, List.setIfInBounds_toArray, List.set_cons_zero, List.set_cons_succ]
              refine wpAnyH_take (i := 13) (oi := { dst := some 60, op := Op.indexAddr 25 (Operand.tmp 47) (Operand.tmp 49), type := 0, pos := "law.go:82", after := #[{ on := 0, ground := Ground.data }, { on := 2, ground := Ground.data }, { on := 0, ground := Ground.phase }, { on := 1, ground := Ground.phase }, { on := 2, ground := Ground.phase }, { on := 3, ground := Ground.phase }, { on := 4, ground := Ground.phase }, { on := 5, ground := Ground.phase }, { on := 6, ground := Ground.phase }, { on := 7, ground := Ground.phase }, { on := 8, ground := Ground.phase }, { on := 9, ground := Ground.phase }, { on := 10, ground := Ground.phase }, { on := 11, ground := Ground.phase }, { on := 12, ground := Ground.phase }], guard := none }) (v := ?_) rfl (by kernel_rfl) (by kernel_rfl) (by kernel_rfl) (fun _ _ _ h => h) (Or.inl ⟨by rfl, ?_⟩) (by assumption) ?_
              rotate_left
              focus (intro w hSw; (try dsimp only at hSw); go_simp; try (with_reducible rfl))
              try simp only [Act.put, List.setIfInBounds_toArray, List.set_cons_zero, List.set_cons_succ]
              refine wpAnyH_take (i := 14) (oi := { dst := some 61, op := Op.fieldAddr 35 (Operand.tmp 60) 5, type := 0, pos := "law.go:82", after := #[{ on := 13, ground := Ground.data }, { on := 0, ground := Ground.phase }, { on := 1, ground := Ground.phase }, { on := 2, ground := Ground.phase }, { on := 3, ground := Ground.phase }, { on := 4, ground := Ground.phase }, { on := 5, ground := Ground.phase }, { on := 6, ground := Ground.phase }, { on := 7, ground := Ground.phase }, { on := 8, ground := Ground.phase }, { on := 9, ground := Ground.phase }, { on := 10, ground := Ground.phase }, { on := 11, ground := Ground.phase }, { on := 12, ground := Ground.phase }], guard := none }) (v := ?_) rfl (by kernel_rfl) (by kernel_rfl) (by kernel_rfl) (fun _ _ _ h => h) (Or.inl ⟨by rfl, ?_⟩) (by assumption) ?_
              rotate_left
              focus (intro w hSw; (try dsimp only at hSw); go_simp; try (with_reducible rfl))
              try simp only [Act.put, List.setIfInBounds_toArray, List.set_cons_zero, List.set_cons_succ]
              refine wpAnyH_ready (rs := [15]) (by kernel_rfl) (by simp) (AllReadyH.cons (o := { dst := none, op := Op.store 22 (Operand.tmp 61) (Operand.tmp 59), type := 0, pos := "law.go:82", after := #[{ on := 14, ground := Ground.data }, { on := 12, ground := Ground.data }, { on := 12, ground := Ground.chain }, { on := 0, ground := Ground.phase }, { on := 1, ground := Ground.phase }, { on := 2, ground := Ground.phase }, { on := 3, ground := Ground.phase }, { on := 4, ground := Ground.phase }, { on := 5, ground := Ground.phase }, { on := 6, ground := Ground.phase }, { on := 7, ground := Ground.phase }, { on := 8, ground := Ground.phase }, { on := 9, ground := Ground.phase }, { on := 10, ground := Ground.phase }, { on := 11, ground := Ground.phase }, { on := 12, ground := Ground.phase }], guard := none }) rfl (fun K hK => ?_) AllReadyH.nil)
              go_simp
              refine hK.out _ _ (by rw [World.cell?_setCell_other (h := hao)]; exact c5e) (fun hHeld => ?_)
              clear hK K
              try simp only [Act.put, List.setIfInBounds_toArray, List.set_cons_zero, List.set_cons_succ]
              refine wpAnyH_done (by kernel_rfl) ?_ _
              go_wp2_with fail
              have hj3 : JQ s W3 (.slice (some ⟨gg, 0, none⟩) (t + 1) vc) (Q ++ [(p, pv, .slice ua p.data.length uc)]) := HQ.out.below HB13.out
              have hj9 : JQ s (W3.setCell ⟨gg, t * 6 + 5, none⟩ (.slice ja (p.data.length + dn) jc)) (.slice (some ⟨gg, 0, none⟩) (t + 1) vc) (Q ++ [({ p with data := p.data ++ qd }, pv, .slice ja (p.data.length + dn) jc)]) := by rw [HT.out] at hj3 ⊢; exact hj3.last HO3.out
              have hb9 : Below s w (W3.setCell ⟨gg, t * 6 + 5, none⟩ (.slice ja (p.data.length + dn) jc)) := (HOLD.out.trans (HB13.out.mono HSZ.out)).setCell (row_first HQ.out.row gg rfl) _
              have hstep : joinStep ((Q ++ [(p, pv, Value.slice ua p.data.length uc)]).map (·.1)) ⟨0, qa, qb, qg, qp, qd⟩ = List.map (fun x : OrdP => x.1) (Q ++ [({ p with data := p.data ++ qd }, pv, Value.slice ja (p.data.length + dn) jc)]) := by unfold joinStep; rw [if_neg (fun h => HQD.out ⟨trivial, h.2⟩)]; simp [hpk]
              go_roundw
              case rel =>
                refine ⟨k + 1, by omega, by go_num, ⟨_, hj9, ?_, by have h1 := HPL.out; have h2 := HM.out; simp at h1 h2 ⊢; omega, fun p hp => ?_⟩, hb9⟩
                · rw [HFT.out, hstep]
                · rw [HDT.out]
                  rcases List.mem_append.1 hp with hp | hp
                  · have := HPD.out p (List.mem_append_left _ hp); omega
                  · rw [List.mem_singleton.1 hp]; have h1 := HPD.out _ (List.mem_append_right _ (List.mem_singleton_self _)); have h2 := HDN.out; simp at h1 ⊢; omega
              case measure => simp [intOf]; omega
            · have hpki : (p.kind == 0) = false := by simpa using hpk
              have hstep : joinStep ((Q ++ [(p, pv, Value.slice ua p.data.length uc)]).map (·.1)) ⟨0, qa, qb, qg, qp, qd⟩ = (Q ++ [(p, pv, Value.slice ua p.data.length uc)]).map (·.1) ++ [⟨0, qa, qb, qg, qp, qd⟩] := by unfold joinStep; rw [if_neg HQD.out]; simp [hpk]
              go_upto_region 6 with fail
              go_wp2_with (at_builtin; refine wpList_append_own _ rfl _ _ 25 rfl s 35 i0 (.agg #[.int .u8 0, .int .i64 0, .int .u8 0, .bool false, .slice none 0 0, .slice none 0 0]) 6 72 Tryd.underlying25 hi hz0 hz1 hz2 rfl (by decide) _ _ _ rfl ((show W1.ownsRow s 35 6 (.slice (some ⟨gg, 0, none⟩) (t + 1) vc) (t + 1) (ordC (Q ++ [(p, pv, Value.slice ua p.data.length uc)])) by have := HQ.out.row; rw [← HM.out] at this; exact this).alloc _) ⟨W1.heap.size, 0, none⟩ 1 1 [.int .u8 0, .int .i64 qa, .int .u8 qb, .bool qg, .slice pa pn pc, .slice da dn dc] rfl rfl (ord_cl W1 0 qa qb qg _ _) (by simp [Value.oneCell']) (by unfold maxLen; omega) (by omega) (by rw [World.size_alloc]; have := HSZ.out; omega) ?_; intro v' W6 hown' hgrow _; have HOWN := Lib.hid hown'; have HGR := Lib.hid hgrow; clear hown' hgrow)
              have hj6 : JQ s W6 v' ((Q ++ [(p, pv, Value.slice ua p.data.length uc)]) ++ [(⟨0, qa, qb, qg, qp, qd⟩, .slice pa pn pc, .slice da dn dc)]) := HQ.out.grown HLOW.out HROW.out (by rw [← HM.out]; exact HOWN.out) HGR.out
              have hb6 : Below s w W6 := (HOLD.out.alloc HSZ.out _).grown HGR.out (by rw [World.size_alloc]; have := HSZ.out; omega) (fun r e => row_first HQ.out.row r e)
              go_roundw
              case rel =>
                refine ⟨k + 1, by omega, by go_num, ⟨_, hj6, ?_, by have h1 := HPL.out; have h2 := HM.out; rw [List.length_append, ← h2]; exact Nat.succ_le_succ h1, fun p hp => ?_⟩, hb6⟩
                · rw [HFT.out, hstep]; simp
                · rw [HDT.out]
                  rcases List.mem_append.1 hp with hp | hp
                  · have := HPD.out p hp; omega
                  · rw [List.mem_singleton.1 hp]; have := HDN.out; show qd.length ≤ _; omega
              case measure => simp [intOf]; omega
      · have hki : (qk == 0) = false := by simpa using hk0'
        have hstep : joinStep (P.map (·.1)) ⟨qk, qa, qb, qg, qp, qd⟩ = P.map (·.1) ++ [⟨qk, qa, qb, qg, qp, qd⟩] := by unfold joinStep; rw [if_neg (fun h => hk0' h.1)]; cases (P.map (·.1)).getLast? <;> simp [hk0']
        go_upto_region 6 with fail
        go_wp2_with (at_builtin; refine wpList_append_own _ rfl _ _ 25 rfl s 35 i0 (.agg #[.int .u8 0, .int .i64 0, .int .u8 0, .bool false, .slice none 0 0, .slice none 0 0]) 6 72 Tryd.underlying25 hi hz0 hz1 hz2 rfl (by decide) _ _ _ rfl ((show W1.ownsRow s 35 6 (.slice va m vc) m (ordC P) by have := HQ.out.row; rw [← HM.out] at this; exact this).alloc _) ⟨W1.heap.size, 0, none⟩ 1 1 [.int .u8 qk, .int .i64 qa, .int .u8 qb, .bool qg, .slice pa pn pc, .slice da dn dc] rfl rfl (ord_cl W1 qk qa qb qg _ _) (by simp [Value.oneCell']) (by unfold maxLen; omega) (by omega) (by rw [World.size_alloc]; have := HSZ.out; omega) ?_; intro v' W6 hown' hgrow _; have HOWN := Lib.hid hown'; have HGR := Lib.hid hgrow; clear hown' hgrow)
        have hj6 : JQ s W6 v' (P ++ [(⟨qk, qa, qb, qg, qp, qd⟩, .slice pa pn pc, .slice da dn dc)]) := HQ.out.grown HLOW.out HROW.out (by rw [← HM.out]; exact HOWN.out) HGR.out
        have hb6 : Below s w W6 := (HOLD.out.alloc HSZ.out _).grown HGR.out (by rw [World.size_alloc]; have := HSZ.out; omega) (fun r e => row_first HQ.out.row r e)
        go_roundw
        case rel =>
          refine ⟨k + 1, by omega, by go_num, ⟨_, hj6, ?_, by have h1 := HPL.out; have h2 := HM.out; rw [List.length_append, ← h2]; exact Nat.succ_le_succ h1, fun p hp => ?_⟩, hb6⟩
          · rw [HFT.out, hstep]; simp
          · rw [HDT.out]
            rcases List.mem_append.1 hp with hp | hp
            · have := HPD.out p hp; omega
            · rw [List.mem_singleton.1 hp]; have := HDN.out; show qd.length ≤ _; omega
        case measure => simp [intOf]; omega
    · obtain rfl : n = k := by omega
      rw [List.take_of_length_le (by rw [← HN.out]; exact Nat.le_refl _)] at hPm
      go_wp2_with fail
      go_ret
      exact ⟨_, P, rfl, hjq, hPm, hold⟩
end Go.Proofs.YtjeknociobbhpaaDoor.Ord
