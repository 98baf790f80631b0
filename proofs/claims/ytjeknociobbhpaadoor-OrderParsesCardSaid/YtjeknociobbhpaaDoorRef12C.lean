/-
  The reference of orders: pairs.
-/
import Derived.Test.YtjeknociobbhpaaDoorRef12B
import Derived.StillTailTactics
namespace Go.Proofs.YtjeknociobbhpaaDoor.Ord
open Go.RowKit Base
set_option linter.unusedVariables false
set_option linter.unusedSimpArgs false

def errR {α : Type} : Rd α → Int | .ok _ _ => 0 | .bad f => errOf (some f)
theorem errR_pre (A : List (Int × Int)) (r : Rd (List (Int × Int))) : errR (r.pre A) = errR r := by cases r <;> rfl
theorem pairM_short {L : List Int} {kind : Int} {i : Nat} (h : L.length ≤ i + 1) : pairM L kind i = .bad .short := by
  unfold pairM
  rcases Nat.lt_or_ge i L.length with hi | hi
  · rw [nx_lt hi]
    show (nx L (i + 1)).andThen _ = _
    rw [nx_end h]; rfl
  · rw [nx_end hi]; rfl
theorem pairM_at {L : List Int} {kind x y : Int} {i : Nat} (hx : L[i]? = some x) (hy : L[i + 1]? = some y) : pairM L kind i = if Attr.chk kind x y = true then .ok (x, y) (i + 2) else .bad .unfit := by
  unfold pairM nx
  rw [hx]
  show (match L[i + 1]? with | some b => Rd.ok b (i + 1 + 1) | Option.none => .bad .short).andThen _ = _
  rw [hy]
  show (if Attr.chk kind x y = true then _ else _) = _
  rfl
theorem empty_pairs (W : World) : PairRow W.heap.size (W.alloc (.cells #[] 58)) (.slice (some ⟨W.heap.size, 0, none⟩) 0 0) [] :=
  ⟨rfl, .inr ⟨W.heap.size, 0, #[], rfl, Nat.le_refl _, heap_alloc_new W _, Nat.le_refl _, by simp [maxLen], rfl, rfl⟩⟩
/-- The pairs so far. -/
structure RPQ (s : Nat) (w : World) (L : List Int) (kind : Int) (R : Rd (List (Int × Int))) (at_ n k : Nat) (v : Value) (wr : World) : Prop where
  ex : ∃ ps, ps.length = k ∧ R = (pairsM L kind (n - k) (at_ + 2 * k)).pre ps ∧ PairRow s wr v ps
  old : Below s w wr
def RPairK (s : Nat) (w : World) (R : Rd (List (Int × Int))) (e : Ending) (w' : World) : Prop := ∃ u, e = .returned (.tuple #[u, .int .i64 (errR R)]) ∧ (∀ ps l, R = .ok ps l → PairRow s w' u ps) ∧ Below s w w' ∧ (errR R ≠ 0 → u = .slice none 0 0)
set_option maxRecDepth 100000 in
set_option maxHeartbeats 4000000 in
theorem rpairs_any {w : World} {v : Value} {L : List Int} (h : RowOf .u8 w v L) (kind : Int) (at_ n : Nat) (hn : n ≤ 255) (hl : L.length ≤ 1000000) (ha : at_ ≤ 1000000) :
    Calls Tryd.prog 42 #[v, .int .i64 at_, .int .u8 kind, .int .i64 n] w (RPairK w.heap.size w (pairsM L kind n at_)) := by
  obtain ⟨i0, hi, hz0, hz1, hz2⟩ := info_parts info_pr
  obtain ⟨R, hR⟩ : ∃ R, R = pairsM L kind n at_ := ⟨_, rfl⟩
  rw [← hR]
  obtain ⟨s, hs⟩ : ∃ s, s = w.heap.size := ⟨_, rfl⟩
  have h0 := empty_pairs w
  have hb0 := below_alloc w (.cells #[] 58)
  obtain ⟨W0, hW0⟩ : ∃ W0, W0 = w.alloc (.cells #[] 58) := ⟨_, rfl⟩
  rw [← hW0, ← hs] at h0
  rw [← hW0, ← hs] at hb0
  have hq0 : RPQ s w L kind R at_ n 0 (.slice (some ⟨s, 0, none⟩) 0 0) W0 := ⟨⟨[], rfl, by rw [hR, Nat.sub_zero, Nat.mul_zero, Nat.add_zero]; cases pairsM L kind n at_ <;> rfl, h0⟩, hb0⟩
  have hr := h.lowK
  obtain ⟨a, c, rfl, _⟩ := h
  obtain ⟨ln, hln⟩ : ∃ ln, ln = L.length := ⟨_, rfl⟩
  rw [← hln] at hl hr ⊢
  have HR := Lib.hid hr
  have HLN := Lib.hid hln
  have HS := Lib.hid hs
  have HQ0 := Lib.hid hq0
  have HW0 := Lib.hid hW0.symm
  rw [← hs]
  clear hr hln hs hq0 h0 hb0 hW0 hR
  go_enter Tryd.func42, Tryd.ntmps42
  go_upto_region 3 with fail
  rw [HW0.out, ← HS.out]
  go_loopw [10, 11] (fun v i wr => ∃ k : Nat, k ≤ n ∧ i = .int .i64 k ∧ RPQ s w L kind R at_ n k v wr) (fun _ i _ => n - (intOf i).toNat)
  case atStart => exact ⟨0, by omega, rfl, HQ0.out⟩
  case round =>
    obtain ⟨k, hk, rfl, ⟨ps, hps, hRk, hrow⟩, hold⟩ := hrel
    obtain ⟨va, vc, rfl⟩ := hrow.slice
    obtain ⟨m, hm⟩ : ∃ m, m = ps.length := ⟨_, rfl⟩
    rw [← hm] at hps hrow ⊢
    subst hps
    have HM := Lib.hid hm
    have HROW := Lib.hid hrow
    have HOL := Lib.hid hold
    have HSZ : Hid (s ≤ wr.heap.size) := Lib.hid (by have := hold.size; rw [← HS.out] at this; exact this)
    have hold' : Below w.heap.size w wr := by rw [← HS.out]; exact hold
    have HRR := Lib.hid (HR.out.below hold').row
    clear hm hrow hold hold'
    by_cases hkn : m < n
    · have hkni : (m : Int) < (n : Int) := by omega
      rw [show n - m = n - (m + 1) + 1 by omega, pairsM_step] at hRk
      obtain ⟨i, hii⟩ : ∃ i, i = at_ + 2 * m := ⟨_, rfl⟩
      rw [← hii] at hRk
      have HRK := Lib.hid hRk
      have HII := Lib.hid hii
      have w1 : IntKind.i64.wrap (2 * (m : Int)) = 2 * (m : Int) := IntWalk.i64_in _ (by omega)
      have w2 : IntKind.i64.wrap ((at_ : Int) + 2 * (m : Int)) = (i : Int) := by rw [hii]; rw [IntWalk.i64_in _ (by omega)]; omega
      have w2' : (at_ : Int) + 2 * (m : Int) = (i : Int) := by rw [hii]; omega
      have w0 : IntKind.i64.wrap (i : Int) = (i : Int) := IntWalk.i64_in _ (by omega)
      have w3 : IntKind.i64.wrap ((i : Int) + 1) = (i : Int) + 1 := IntWalk.i64_in _ (by omega)
      have i0' : (0 : Int) ≤ (i : Int) := Int.natCast_nonneg _
      clear hRk hii
      by_cases hsh : ln ≤ i + 1
      · have hshi : (ln : Int) ≤ (i : Int) + 1 := by omega
        have HRE : Hid (R = .bad .short) := Lib.hid (by rw [HRK.out, pairM_short (by rw [← HLN.out]; exact hsh)]; rfl)
        clear hsh
        go_wp2_with fail
        refine bodyPost_ret (v := .tuple #[.slice none 0 0, .int .i64 20]) (by simp [results, Tryd.results42, go_sem]) rfl ?_
        exact ⟨_, by rw [HRE.out]; rfl, fun ps l e => by (rw [HRE.out] at e; cases e), HOL.out, fun _ => rfl⟩
      · have hshi : ¬ (ln : Int) ≤ (i : Int) + 1 := by omega
        have hlt1 : (i : Int) < (ln : Int) := by omega
        have hlt2 : (i : Int) + 1 < (ln : Int) := by omega
        have hnl1 : i < ln := by omega
        have hnl2 : i + 1 < ln := by omega
        have i1' : (0 : Int) ≤ (i : Int) + 1 := by omega
        obtain ⟨x, hx⟩ : ∃ x, L[i]? = some x := ⟨_, List.getElem?_eq_getElem (by rw [← HLN.out]; omega)⟩
        obtain ⟨y, hy⟩ : ∃ y, L[i + 1]? = some y := ⟨_, List.getElem?_eq_getElem (by rw [← HLN.out]; omega)⟩
        obtain ⟨_, _, e, hc⟩ := HRR.out
        injection e with e1 e2 e3
        clear e2
        subst e1 e3
        obtain ⟨gg, off, rfl, hcc⟩ := hc (by intro e; rw [e] at hx; simp at hx)
        have d1 := hcc i (by rw [← HLN.out]; omega)
        have d2 := hcc (i + 1) (by rw [← HLN.out]; omega)
        rw [hx] at d1
        rw [hy] at d2
        simp only [Option.getD_some] at d1 d2
        have HPM := Lib.hid (pairM_at (kind := kind) hx hy)
        have tn : ((i : Int) + 1).toNat = i + 1 := by omega
        clear hx hy hc hcc hsh
        go_upto_region 7 with fail
        have k1 : ∀ o, (wr.alloc o).drew.cell? ⟨gg, off + i, none⟩ = some (.int .u8 x) := fun o => (cell_block (Below.heap_alloc wr o _ (World.block_lt_of_cell? wr ⟨gg, off + i, none⟩ d1)) _).trans d1
        have k2 : ∀ o, (wr.alloc o).drew.cell? ⟨gg, off + (i + 1), none⟩ = some (.int .u8 y) := fun o => (cell_block (Below.heap_alloc wr o _ (World.block_lt_of_cell? wr ⟨gg, off + i, none⟩ d1)) _).trans d2
        have e1 : wr.drew.cell? ⟨gg, off + i, none⟩ = some (.int .u8 x) := d1
        have e2 : wr.drew.cell? ⟨gg, off + (i + 1), none⟩ = some (.int .u8 y) := d2
        have K := Lib.hid (And.intro k1 k2)
        clear k1 k2 d1 d2
        first
        | (go_region_held3 (fun Z => Z.cell? ⟨gg, off + i, none⟩ = some (.int .u8 x) ∧ Z.cell? ⟨gg, off + (i + 1), none⟩ = some (.int .u8 y)) (first | assumption | exact ⟨e1, e2⟩ | exact ⟨K.out.1 _, K.out.2 _⟩ | exact ⟨(K.out.1 (.cells #[.int .u8 x, .int .u8 y] 58)), (K.out.2 (.cells #[.int .u8 x, .int .u8 y] 58))⟩) (fail))
        | fail
        all_goals
          have hbx : Below wr.heap.size wr (wr.alloc (.cells #[.int .u8 x, .int .u8 y] 58)).drew := ((Below.refl _ wr).alloc (Nat.le_refl _) _).drew
          have hnb : (wr.alloc (.cells #[.int .u8 x, .int .u8 y] 58)).drew.heap[wr.heap.size]? = some (.cells #[.int .u8 x, .int .u8 y] 58 (0, 0)) := heap_alloc_new wr _
          obtain ⟨W2, hW2⟩ : ∃ W2, W2 = (wr.alloc (.cells #[.int .u8 x, .int .u8 y] 58)).drew := ⟨_, rfl⟩
          rw [← hW2] at hbx hnb
          obtain ⟨pb, hpb⟩ : ∃ pb, pb = wr.heap.size := ⟨_, rfl⟩
          have HPB := Lib.hid hpb.symm
          rw [← hpb] at hnb
          have HBX := Lib.hid hbx
          have HNB := Lib.hid hnb
          have HW2 := Lib.hid hW2.symm
          have c0 : W2.cell? ⟨pb, 0, none⟩ = some (.int .u8 x) := by simp [World.cell?, hnb]
          have c1 : W2.cell? ⟨pb, 1, none⟩ = some (.int .u8 y) := by simp [World.cell?, hnb]
          clear hbx hnb hW2 hpb e1 e2
          go_upto_region 8 with fail
          rw [HW2.out, HPB.out]
          go_wp2_with fail
          have hck := Attr.rcheck_any kind x y W2
          by_cases hp : Attr.chk kind x y = true
          · rw [hp] at hck
            have HPM2 : Hid (pairM L kind i = .ok (x, y) (i + 2)) := Lib.hid (by rw [HPM.out, if_pos hp])
            refine hck.mono ?_
            rintro e W3 ⟨rfl, b3⟩
            have N3 := (b3.block pb (lt_of_block HNB.out)).trans HNB.out
            have HN3 := Lib.hid N3
            have HR3 := Lib.hid (((HROW.out.keep fun g _ hl => HBX.out.block g hl).keep fun g _ hl => b3.block g hl))
            have HO3 := Lib.hid (HOL.out.trans ((HBX.out.trans (b3.mono HBX.out.size)).mono HSZ.out))
            have HZ3 : Hid (s ≤ W3.heap.size) := Lib.hid (Nat.le_trans HSZ.out (Nat.le_trans HBX.out.size b3.size))
            have hraw : W3.ownsRow s 58 2 (.slice va m vc) m (flatP ps) := by
              have := HR3.out
              unfold PairRow at this
              rw [← HM.out] at this
              exact this
            have HRAW := Lib.hid hraw
            have c0' : W3.cell? ⟨pb, 0, none⟩ = some (.int .u8 x) := by simp [World.cell?, N3]
            have c1' : W3.cell? ⟨pb, 1, none⟩ = some (.int .u8 y) := by simp [World.cell?, N3]
            clear hck b3 N3 hraw c0 c1 hp
            go_wp2_with (at_builtin; refine wpList_append_own _ rfl _ _ 33 rfl s 58 i0 (.agg #[.int .u8 0, .int .u8 0]) 2 2 Tryd.underlying33 hi hz0 hz1 hz2 rfl (by decide) _ _ _ rfl (HRAW.out.alloc _) ⟨W3.heap.size, 0, none⟩ 1 1 [.int .u8 x, .int .u8 y] rfl rfl (pair_cl W3 x y) (by simp [Value.oneCell']) (by unfold maxLen; omega) (by omega) (by rw [World.size_alloc]; have := HZ3.out; omega) ?_; intro v' W5 hown' hgrow _; have HOWN := Lib.hid hown'; have HGR := Lib.hid hgrow; clear hown' hgrow)
            have hb5 : Below s w W5 := (HO3.out.alloc HZ3.out _).grown HGR.out (by rw [World.size_alloc]; have := HZ3.out; omega) (fun r e => row_first HRAW.out r e)
            have hrow5 : PairRow s W5 v' (ps ++ [(x, y)]) := by
              unfold PairRow
              rw [flatP_append, List.length_append, ← HM.out]
              exact HOWN.out
            have HFIN : Hid (RPQ s w L kind R at_ n (m + 1) v' W5) := Lib.hid ⟨⟨ps ++ [(x, y)], by rw [List.length_append, ← HM.out]; rfl, by rw [HRK.out, HPM2.out, show at_ + 2 * (m + 1) = i + 2 by rw [HII.out]; omega]; rfl, hrow5⟩, hb5⟩
            clear hb5 hrow5 c0' c1'
            go_roundw
            case rel => exact ⟨m + 1, by omega, by go_num, HFIN.out⟩
            case measure => simp [intOf]; omega
          · have hpf : Attr.chk kind x y = false := by simpa using hp
            rw [hpf] at hck
            have HRE : Hid (R = .bad .unfit) := Lib.hid (by rw [HRK.out, HPM.out, if_neg hp]; rfl)
            refine hck.mono ?_
            rintro e W3 ⟨rfl, b3⟩
            have HO3 := Lib.hid (HOL.out.trans ((HBX.out.trans (b3.mono HBX.out.size)).mono HSZ.out))
            clear hck b3 c0 c1 hp hpf
            go_wp2_with fail
            refine bodyPost_ret (v := .tuple #[.slice none 0 0, .int .i64 33]) (by simp [results, Tryd.results42, go_sem]) rfl ?_
            exact ⟨_, by rw [HRE.out]; rfl, fun ps l e => by (rw [HRE.out] at e; cases e), HO3.out, fun _ => rfl⟩
    · obtain rfl : n = m := by omega
      rw [Nat.sub_self] at hRk
      have HRE : Hid (R = .ok ps (at_ + 2 * n)) := Lib.hid (by rw [hRk]; simp [pairsM, Rd.pre])
      clear hRk hkn
      go_wp2_with fail
      refine bodyPost_ret (v := .tuple #[.slice va n vc, .int .i64 0]) (by simp [results, Tryd.results42, go_sem]) rfl ?_
      refine ⟨_, by rw [HRE.out]; rfl, fun qs l e => ?_, HOL.out, fun h => absurd (by rw [HRE.out]; rfl) h⟩
      rw [HRE.out] at e
      injection e with e _
      subst e
      exact HROW.out
end Go.Proofs.YtjeknociobbhpaaDoor.Ord
