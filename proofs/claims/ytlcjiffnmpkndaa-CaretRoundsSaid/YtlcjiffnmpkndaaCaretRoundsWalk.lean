/-
  The walk of CaretRounds.
-/
import Derived.Test.YtlcjiffnmpkndaaCaI
import Derived.Maps.OwnOps
import Derived.Maps.OwnSet
namespace Go.Proofs.Ytlcjiffnmpkndaa.Pl
open Go.RowKit Go.Shelf Go.Maps Base
set_option linter.unusedVariables false
set_option linter.unusedSimpArgs false

/-- With the map of the places that were seen. -/
structure CmQ (w : World) (b g : Nat) (r c cur : Int) (L : List Cl) (gx n : Nat) (ov : Value) (m : Nat) (v : Value) (k : Nat) (Y : List Int) (B : Nat) (mb j : Nat) (Z : List Int) (W : World) : Prop where
  cr : CrQ w b g r c cur L gx n ov m v k Y B W
  mp : W.ownsMap Try.prog 3 (plainElem (H := Unit) Try.prog 4) mb j (seenM Z)
  lm : w.heap.size ≤ mb
theorem cmap_block {W : World} {mb m : Nat} {R : Value → Option (DataW Unit × List MemPlace)} {D : DataW Unit} (h : W.ownsMap Try.prog 3 R mb m D) : ∃ o : Obj, W.heap[mb]? = some o ∧ o.isCells = false := by
  obtain ⟨es, clock, hb, _⟩ := h
  exact ⟨_, hb, rfl⟩
section
variable {w W W' : World} {b g : Nat} {r c cur x : Int} {L : List Cl} {gx n : Nat} {ov v : Value} {m k B mb j : Nat} {Y Z : List Int}
theorem CmQ.below (h : CmQ w b g r c cur L gx n ov m v k Y B mb j Z W) (t : Below W.heap.size W W') : CmQ w b g r c cur L gx n ov m v k Y B mb j Z W' :=
  ⟨h.cr.below t, h.mp.kept (row := none) (grown_of_below t) (by simp), h.lm⟩
theorem CmQ.drew (h : CmQ w b g r c cur L gx n ov m v k Y B mb j Z W) : CmQ w b g r c cur L gx n ov m v k Y B mb j Z W.drew := h.below ⟨rfl, rfl, rfl, Nat.le_refl _, fun _ _ => rfl⟩
theorem CmQ.go (h : CmQ w b g r c cur L gx n ov m v k Y B mb j Z W) (hp : PlAt W' b g r c x L) (t : Turn (At b) W W') : CmQ w b g r c x L gx n ov m v k Y B mb j Z W' := by
  obtain ⟨A, C, h1, h2⟩ := h.cr.co.pl.blocks
  obtain ⟨es, clock, hb, hr⟩ := h.mp
  refine ⟨h.cr.go hp t, ⟨es, clock, (t.block mb (lt_of_block hb) (fun e => ?_)).trans hb, hr⟩, h.lm⟩
  have e' : mb = b := e
  subst e'
  rw [h1] at hb; cases hb
theorem CmQ.put (h : CmQ w b g r c cur L gx n ov m v k Y B mb j Z W) (hg : W.grownBy W' (some mb)) {y : Int} (hm : W'.ownsMap Try.prog 3 (plainElem (H := Unit) Try.prog 4) mb (j + 1) ((seenM Z).put (.int .i64 y) (.lit (.bool true)))) : CmQ w b g r c cur L gx n ov m v k Y B mb (j + 1) (Z ++ [y]) W' := by
  have hr : ∀ x, some mb = some x → ∃ o : Obj, W.heap[x]? = some o ∧ o.isCells = false := fun x e => by cases e; exact cmap_block h.mp
  have hl := h.lm
  refine ⟨⟨⟨h.cr.co.pl.grown hg hr, ⟨row_grown h.cr.co.rx.row hg hr, h.cr.co.rx.len, h.cr.co.rx.most⟩, h.cr.co.lb, h.cr.co.lg, h.cr.co.ne, h.cr.co.old.grown hg h.cr.co.old.size (fun j e => by cases e; exact hl)⟩, ⟨row_grown h.cr.ro.row hg hr, h.cr.ro.no⟩, ⟨row_grown h.cr.rv.row hg hr, h.cr.rv.no⟩, h.cr.lo, h.cr.lv, h.cr.lb, Nat.le_trans h.cr.bz hg.size⟩, ?_, hl⟩
  rw [seenM_snoc]; exact hm
theorem CmQ.look (h : CmQ w b g r c cur L gx n ov m v k Y B mb j Z W) (y : Int) (hy : keyOf Try.prog 3 (.int .i64 y) = some (.int .i64 y)) (hv : y ∈ Z) :
    (Instr.lookup 55 (.map (some mb)) (.int .i64 y) false).run Try.prog W = .ok (.bool true) W := by
  obtain ⟨u, ps, hrun, hu⟩ := h.mp.lookup (int_keyed Try.underlying3) Try.underlying55 (czero_bool W) (plainElem_bool Try.underlying4 false) hy
  rw [seenM_at, decide_eq_true hv] at hu
  rw [hrun, cplain_bool hu]
end
set_option maxRecDepth 100000 in
set_option maxHeartbeats 16000000 in
theorem caretRounds_law {w : World} (r c : Int) {p1 p2 p3 : Prop} (_ : p1) (_ : p2) (v0 : Value) (L0 : List Cl) (hL : ClsAt w v0 L0 ∧ L0.length ≤ maxLen ∧ ∀ x ∈ L0, x.Ok) (a : Int) (_ : p3) :
    Calls Try.prog 6 #[.agg #[.int .i64 r, .int .i64 c], v0, .int .i64 a] w fun e W => e = .returned (.bool true) ∧ Below w.heap.size w W := by
  obtain ⟨hv, hm, hok⟩ := hL
  obtain ⟨a0, cap0, hv0, _⟩ := id hv
  subst hv0
  obtain ⟨m0, hm0⟩ : ∃ m0, m0 = L0.length := ⟨_, rfl⟩
  have HV := Lib.hid hv
  have HM := Lib.hid hm
  have HOK := Lib.hid hok
  rw [← hm0] at HV hm ⊢
  have HM0 := Lib.hid hm0
  obtain ⟨W0, hW0⟩ : ∃ W0, W0 = w.alloc (.cells #[.int .i64 r, .int .i64 c] 23) := ⟨_, rfl⟩
  have hn0 : W0.heap[w.heap.size]? = some (.cells #[.int .i64 r, .int .i64 c] 23 (0, 0)) := by rw [hW0]; exact heap_alloc_new w _
  have HN0 := Lib.hid hn0
  have B0 := Lib.hid (show Below w.heap.size w W0 by rw [hW0]; exact below_alloc w _)
  have HW0 := Lib.hid hW0.symm
  clear hv hok hm0 hW0 hn0 hm
  go_enter Try.func6, Try.ntmps6
  go_wp2_with fail
  rw [HW0.out]
  go_wp2_with (go_at_call 18; (with_reducible refine (ca_alive W0).mono ?_); rintro e w1 ⟨rfl, hb1⟩
               have n1 := (hb1.block _ (lt_of_block HN0.out)).trans HN0.out
               have q0 : w1.cell? ⟨w.heap.size, 0, none⟩ = some (.int .i64 r) := by simp [World.cell?, n1]
               have q1 : w1.cell? ⟨w.heap.size, 1, none⟩ = some (.int .i64 c) := by simp [World.cell?, n1]
               have B1 := Lib.hid (B0.out.trans (hb1.mono B0.out.size)); clear hb1 n1)
  go_at_call 19
  refine (made_any r c (.slice a0 m0 cap0) L0 a w1 (HV.out.below (B1.out.mono (Nat.le_refl _))) HM.out).mono ?_
  rintro e w2 (⟨hno, pv, r', c', a', l', k', rfl, hb2⟩ | ⟨b, g, gx, n, hcn, hn1, hn2, rfl, hpl, hrow, hb, hg, hgx, hgb, hgg, hb2⟩)
  · unfold xV
    go_wp2_with fail
    go_ret
    exact ⟨rfl, B1.out.trans ((hb2.mono B1.out.size).alloc (by have := B1.out.size; have := hb2.size; omega) _)⟩
  unfold xV
  obtain ⟨L, hL⟩ : ∃ L, L = mL n L0 L0.length := ⟨_, rfl⟩
  rw [← hL] at hpl hrow
  have hlen : L.length = n := by rw [hL, mL_length]
  have hbo : BoL L := bo_ca (fun x hx => by rw [hL] at hx; exact (mL_ok n HOK.out _ x hx).1)
  obtain ⟨x, hx⟩ : ∃ x, x = a % 256 % (n : Int) := ⟨_, rfl⟩
  have hxb : 0 ≤ x ∧ x < (n : Int) := by rw [hx]; exact ⟨Int.emod_nonneg _ (by omega), Int.emod_lt_of_pos _ (by omega)⟩
  rw [← hx] at hpl ⊢
  have hs1 := B1.out.size
  have hba := below_alloc w2 (.cells #[.int .i64 r, .int .i64 c, .slice (some ⟨gx, 0, none⟩) n n, .int .i64 x] 29)
  have cb := heap_alloc_new w2 (.cells #[.int .i64 r, .int .i64 c, .slice (some ⟨gx, 0, none⟩) n n, .int .i64 x] 29)
  have hco : CoQ w b g r c x L gx n (w2.alloc (.cells #[.int .i64 r, .int .i64 c, .slice (some ⟨gx, 0, none⟩) n n, .int .i64 x] 29)) :=
    ⟨hpl.below hba, ⟨own_below hrow hba, hlen, by omega⟩, by omega, by omega, ⟨by omega, by omega⟩, (B1.out.trans (hb2.mono hs1)).alloc (by have := hb2.size; omega) _⟩
  have HC := Lib.hid hco
  have HCB := Lib.hid cb
  have HBO := Lib.hid hbo
  have HLN := Lib.hid hlen
  have HX := Lib.hid hx
  have HCE := Lib.hid hcn
  clear hpl hrow hb2 hL hcn q0 q1 hb hg hgx hgb hgg hlen hbo hs1 hba hco cb hx
  go_upto_region 6 with fail
  obtain ⟨w3, hw3⟩ : ∃ w3, w3 = w2.alloc (.cells #[.int .i64 r, .int .i64 c, .slice (some ⟨gx, 0, none⟩) n n, .int .i64 x] 29) := ⟨_, rfl⟩
  rw [← hw3] at HC HCB ⊢
  obtain ⟨s, hs⟩ : ∃ s, s = w2.heap.size := ⟨_, rfl⟩
  rw [← hs] at HCB ⊢
  clear hw3 hs
  obtain ⟨s0, s1, s2, s3, sf⟩ := blk4 HCB.out
  have hn5 : (1 : Int) ≤ (n : Int) := by omega
  have hn6 : (n : Int) ≤ 60 := by omega
  obtain ⟨i0, hi0, hz0, hz1, hz2⟩ := info_parts info_int'
  have hln : (L.length : Int) = n := by rw [HLN.out]
  have hlen1 : 1 ≤ L.length := by rw [HLN.out]; exact hn1
  obtain ⟨m, hmm⟩ : ∃ m, m = (opsL L).length := ⟨_, rfl⟩
  have HMM := Lib.hid hmm
  have hopn := ropens_any r c x HC.out.rx HBO.out
  rw [← hmm] at hopn
  have hm60 : m ≤ 60 := by
    rw [hmm]; unfold opsL
    refine Nat.le_trans (List.length_filter_le _ _) ?_
    have := HLN.out
    simp [runN]; omega
  have HOPN := Lib.hid hopn
  unfold xV at HOPN
  clear hmm hopn
  have RO4 : ∀ {ov : Value} {w4 w3 : World}, w4.ownsRow 0 3 1 ov m (intsV (opsL L)) → (∀ j, ov.ownBlock = some j → w3.heap.size ≤ j) → CoQ w b g r c x L gx n w3 → RoQ b g ov m (intsV (opsL L)) w4 :=
    fun h1 h2 h3 => ⟨h1, fun j hj => by have := h2 j hj; have := h3.pl.lt; have := h3.pl.ltg; omega⟩
  have hm0 : m = 0 ∨ 1 ≤ m := by omega
  rcases hm0 with hm0 | hm1
  · have hm2 : (m : Int) = 0 := by omega
    have hnil : opsL L = [] := List.eq_nil_of_length_eq_zero (by rw [← HMM.out]; exact hm0)
    have E1 := Lib.hid (tab_none hnil x hxb.1 (by rw [hln]; exact hxb.2))
    have E2 := Lib.hid (back_none hnil 0 hlen1)
    clear hnil
    go_wp2_with (first
      | (go_at_call 36; (with_reducible refine HOPN.out.mono ?_); rintro e w4 ⟨ov, rfl, hor, hol, hb4⟩; obtain ⟨oa, ocap, rfl, hoa⟩ := rrow_shape hor; have HC4 := Lib.hid (HC.out.below hb4); clear hor hol hoa hb4)
      | (go_at_call 28; (with_reducible refine (gop_k (tab_any HC4.out.pl HBO.out) E1.out).mono ?_); rintro e w5 ⟨rfl, hp, ht⟩; have HC5 := Lib.hid (HC4.out.go hp ht); clear hp ht)
      | (go_at_call 29; (with_reducible refine (gop_k (back_cany HC5.out.pl HBO.out) E2.out).mono ?_); rintro e w6 ⟨rfl, hp, ht⟩; have HC6 := Lib.hid (HC5.out.go hp ht); clear hp ht))
    go_ret
    exact ⟨rfl, HC6.out.old⟩
  · have hml : 1 ≤ (opsL L).length := by rw [← HMM.out]; exact hm1
    have hne : opsL L ≠ [] := fun e => by rw [e] at hml; simp at hml
    obtain ⟨j0, y0, hj0, hjt⟩ := tab_some hne hxb.1 (by rw [hln]; exact hxb.2)
    have hj0l : j0 < (opsL L).length := (List.getElem?_eq_some_iff.1 hj0).1
    have hF : tabL L x = pT L j0 := by rw [hjt]; unfold pT; rw [Nat.mod_eq_of_lt hj0l, hj0]; rfl
    obtain ⟨F, hFF⟩ : ∃ F, F = pT L j0 := ⟨_, rfl⟩
    have HF0 := Lib.hid (show tabL L x = F by rw [hF, hFF])
    have HFF := Lib.hid hFF
    have HML := Lib.hid hml
    obtain ⟨N, hN⟩ : ∃ N, m = N + 1 := ⟨m - 1, by omega⟩
    have HN1 := Lib.hid hN
    have hmN : (m : Int) - 1 = (N : Int) := by omega
    have hmz : ((m : Int) == 0) = false := by rw [beq_eq_false_iff_ne]; omega
    have hN60 : N ≤ 60 := by omega
    clear hne hj0 hjt hj0l hF hFF hml hN hm1
    go_upto_region 11 with (first
      | (go_at_call 36; (with_reducible refine HOPN.out.mono ?_); rintro e w4 ⟨ov, rfl, hor, hol, hb4⟩; obtain ⟨oa, ocap, rfl, hoa⟩ := rrow_shape hor; have HR4 := Lib.hid (RO4 hor hol HC.out); have HOL := Lib.hid (show ∀ j, (Value.slice oa m ocap).ownBlock = some j → j < w4.heap.size from fun j hj => (hor.lt j hj).2); have HC4 := Lib.hid (HC.out.below hb4); have HOA := Lib.hid hoa; clear hor hol hoa hb4)
      | (go_at_call 28; (with_reducible refine (gop_k (tab_any HC4.out.pl HBO.out) HF0.out).mono ?_); rintro e w5 ⟨rfl, hp, ht⟩; have HC5 := Lib.hid (HC4.out.go hp ht); have HR5 := Lib.hid (HR4.out.go ht); have HS5 := Lib.hid ht.size; clear hp ht))
    obtain ⟨gr, rfl⟩ := HOA.out (by have := HN1.out; omega)
    have hba := below_alloc w5 (.cells #[.int .i64 F] 3)
    have hrl : (w5.alloc (.cells #[.int .i64 F] 3)).ownsRow 0 3 1 (.slice (some ⟨w5.heap.size, 0, none⟩) 1 1) 1 (intsV (pK2 L j0 1)) := by
      have h := World.ownsRow_lit (base := 0) (e := 3) (size := 1) w5 #[.int .i64 F] 1 (Nat.zero_le _) (by unfold maxLen; omega) (by simp)
      have e : intsV (pK2 L j0 1) = [.int .i64 F] := by rw [HFF.out]; rfl
      rw [e]; exact h
    have hcr : CrQ w b g r c (pT L (j0 + 0)) L gx n (.slice (some ⟨gr, 0, none⟩) m ocap) m (.slice (some ⟨w5.heap.size, 0, none⟩) 1 1) 1 (pK2 L j0 1) w5.heap.size (w5.alloc (.cells #[.int .i64 F] 3)) := by
      have hc := HC5.out.below hba
      have hs5 := HC5.out.old.size
      have h1 := HC5.out.pl.lt
      have h2 := HC5.out.pl.ltg
      have h3 := HC5.out.rx.lt
      rw [Nat.add_zero, ← HFF.out]
      refine ⟨hc, HR5.out.below hba, ⟨hrl, fun j hj => ?_⟩, fun j hj => ?_, fun j hj => ?_, ⟨hs5, h1, h2, h3⟩, hba.size⟩
      · simp [Value.ownBlock] at hj; omega
      · have := HOL.out j hj; have := HS5.out; omega
      · simp [Value.ownBlock] at hj; omega
    obtain ⟨W6, hW6⟩ : ∃ W6, W6 = w5.alloc (.cells #[.int .i64 F] 3) := ⟨_, rfl⟩
    obtain ⟨B, hB⟩ : ∃ B, B = w5.heap.size := ⟨_, rfl⟩
    rw [← hW6] at hcr ⊢
    rw [← hB] at hcr ⊢
    have HCR := Lib.hid hcr
    clear hcr hrl hba hW6 hB HR4 HC4 HR5 HC5 HOL HS5 HC s0 s1 s2 s3 sf
    go_wp2_with fail
    go_loopw [12, 51] (fun p q wr => ∃ (k : Nat) (v : Value), p = v ∧ q = .int .i64 k ∧ k ≤ N ∧ CrQ w b g r c (pT L (j0 + k)) L gx n (.slice (some ⟨gr, 0, none⟩) m ocap) m v (k + 1) (pK2 L j0 (k + 1)) B wr) (fun _ q _ => N - (intOf q).toNat)
    case atStart => exact ⟨0, _, rfl, rfl, Nat.zero_le _, HCR.out⟩
    case round =>
      obtain ⟨k, v, rfl, rfl, hk, hq⟩ := hrel
      have HQ := Lib.hid hq
      clear hq HCR
      by_cases hkN : k < N
      · have hkN2 : (k : Int) < (N : Int) := by omega
        obtain ⟨y, hy⟩ : ∃ y, y = pT L (j0 + (k + 1)) := ⟨_, rfl⟩
        have HYT := Lib.hid (show tabL L (pT L (j0 + k)) = y by rw [hy]; exact pT_tab HML.out _)
        have HY := Lib.hid hy
        clear hy
        go_wp2_with (first
          | (go_at_call 28; (with_reducible refine (gop_k (tab_any HQ.out.co.pl HBO.out) HYT.out).mono ?_); rintro e w7 ⟨rfl, hp, ht⟩; have HQ7 := Lib.hid (HQ.out.go hp ht); have hown := HQ7.out.rv.row; clear hp ht)
          | (at_builtin; refine wpList_append_own_at _ rfl _ _ 44 rfl 0 3 i0 (.int .i64 0) 1 8 Try.underlying44 hi0 hz0 hz1 hz2 rfl (by decide) _ _ _ rfl (hown.alloc _) ⟨w7.heap.size, 0, none⟩ 1 1 [.int .i64 y] rfl rfl (cell_one_new _ _ _) (by simp [Value.oneCell']) (by unfold maxLen; omega) (by omega) (Nat.zero_le _) ?_; intro v1 w8 hown1 hgrow1 _ hat1))
        have HQ8 := Lib.hid (HQ7.out.app (below_alloc _ _) hgrow1 hown1 hat1)
        clear hgrow1 hown1 hat1 hown
        go_roundw
        case rel => exact ⟨k + 1, _, rfl, by go_num, by omega, by rw [← HY.out, pK2_succ (k := k + 1), ← HY.out]; exact HQ8.out⟩
        case measure => simp [intOf]; omega
      · obtain rfl : N = k := by omega
        have HYT := Lib.hid (show tabL L (pT L (j0 + N)) = F by rw [pT_tab HML.out, HFF.out, show j0 + N + 1 = j0 + (opsL L).length by rw [← HMM.out, HN1.out]; omega, pT_round])
        have hFe : (F != F) = false := by simp
        go_upto_region 17 with (first
          | (go_at_call 28; (with_reducible refine (gop_k (tab_any HQ.out.co.pl HBO.out) HYT.out).mono ?_); rintro e w7 ⟨rfl, hp, ht⟩; have HQ7 := Lib.hid (HQ.out.go hp ht); clear hp ht))
        obtain ⟨va, vcap, hv, hvg⟩ := rrow_shape HQ7.out.rv.row
        subst hv
        obtain ⟨gv, rfl⟩ := hvg (by omega)
        clear hvg
        obtain ⟨M, hM⟩ : ∃ M, M = N + 1 := ⟨_, rfl⟩
        rw [← hM] at HQ7 ⊢
        have HM1 := Lib.hid hM
        have hM60 : M ≤ 61 := by omega
        clear hM
        have hmm : ∀ w : World, (Instr.makeMap 55 none).run Try.prog w = .ok (.map (some w.heap.size)) (w.alloc (.map #[] 0)) := fun _ => by kernel_rfl
        have hmk := World.ownsMap_made w7 Try.prog 3 (plainElem (H := Unit) Try.prog 4)
        obtain ⟨mb, hmb⟩ : ∃ mb, mb = w7.heap.size := ⟨_, rfl⟩
        have HK0 := Lib.hid (show CmQ w b g r c F L gx n (.slice (some ⟨gr, 0, none⟩) m ocap) m (.slice (some ⟨gv, 0, none⟩) M vcap) M (pK2 L j0 M) B w7.heap.size 0 [] (w7.alloc (.map #[] 0)) from ⟨HQ7.out.below (below_alloc _ _), hmk, by have := HQ7.out.co.old.size; omega⟩)
        clear hmk hFe
        go_wp2_with fail
        clear hmm
        rw [← hmb] at HK0 ⊢
        obtain ⟨W8, hW8⟩ : ∃ W8, W8 = w7.alloc (.map #[] 0) := ⟨_, rfl⟩
        rw [← hW8] at HK0 ⊢
        clear hW8 hmb HQ7 HQ
        obtain ⟨Y, hY⟩ : ∃ Y, Y = pK2 L j0 M := ⟨_, rfl⟩
        rw [← hY] at HK0
        have hYl : Y.length = M := by rw [hY, pK2_len]
        have HY := Lib.hid hY
        have HYL := Lib.hid hYl
        clear hY hYl
        go_loopw [66] (fun q wr => ∃ k : Nat, q = .int .i64 k ∧ k ≤ M ∧ CmQ w b g r c F L gx n (.slice (some ⟨gr, 0, none⟩) m ocap) m (.slice (some ⟨gv, 0, none⟩) M vcap) M Y B mb k (Y.take k) wr) (fun q _ => M - (intOf q).toNat)
        case atStart => exact ⟨0, rfl, Nat.zero_le _, by rw [List.take_zero]; exact HK0.out⟩
        case round =>
          obtain ⟨k, rfl, hk2, hq⟩ := hrel
          have HQ := Lib.hid hq
          clear hq HK0
          by_cases hkM : k < M
          · have hkM2 : (k : Int) < (M : Int) := by omega
            have hk0 : (0 : Int) ≤ (k : Int) := by omega
            obtain ⟨y, hy⟩ : ∃ y, Y[k]? = some y := ⟨_, List.getElem?_eq_getElem (by rw [HYL.out]; exact hkM)⟩
            have hcell := HQ.out.cr.rv.get (by rw [intsV_len, HYL.out]) (intsV_get hy)
            have hyb : 0 ≤ y ∧ y < n := by
              rw [HY.out] at hy
              have hyk : y = pT L (j0 + k) := by rw [pK2_get j0 hkM] at hy; exact (Option.some.inj hy).symm
              rw [hyk, ← hln]; exact pT_bd hlen1 _
            have HKEY : Hid (keyOf Try.prog 3 (.int .i64 y) = some (.int .i64 y)) := keyOf_int_mk Try.underlying3 (WalkArith.wf_i64 (by omega))
            have hmp := HQ.out.mp
            have HTK := Lib.hid (show Y.take (k + 1) = Y.take k ++ [y] by
              obtain ⟨h1, h2⟩ := List.getElem?_eq_some_iff.1 hy
              rw [List.take_succ_eq_append_getElem h1, h2])
            clear hy
            go_wp2_with (at_mapUpdate; refine wpList_mapUpdate_own _ rfl _ _ _ 55 rfl 3 4 (int_keyed Try.underlying3) Try.underlying55 _ mb k _ rfl hmp (by unfold maxLen; omega) _ _ _ rfl rfl HKEY.out _ [] (plainElem_bool Try.underlying4 true) ?_; intro w9 hown9 hgrow9)
            have HQ9 := Lib.hid (HQ.out.put hgrow9 hown9)
            clear hgrow9 hown9 hmp
            go_roundw
            case rel => exact ⟨k + 1, by go_num, by omega, by rw [HTK.out]; exact HQ9.out⟩
            case measure => simp [intOf]; omega
          · obtain rfl : M = k := by omega
            have hfull : Y.take M = Y := List.take_of_length_le (by rw [HYL.out]; exact Nat.le_refl _)
            have h9 := HQ.out
            rw [hfull] at h9
            have HQ9 := Lib.hid h9
            clear h9 hfull HQ
            go_wp2_with fail
            go_loopw [75] (fun q wx => ∃ k : Nat, q = .int .i64 k ∧ k ≤ m ∧ CmQ w b g r c F L gx n (.slice (some ⟨gr, 0, none⟩) m ocap) m (.slice (some ⟨gv, 0, none⟩) M vcap) M Y B mb M Y wx) (fun q _ => m - (intOf q).toNat)
            case atStart => exact ⟨0, rfl, Nat.zero_le _, HQ9.out⟩
            case round =>
              obtain ⟨k, rfl, hk3, hq⟩ := hrel
              have HQ := Lib.hid hq
              clear hq HQ9
              by_cases hkm : k < m
              · have hkm2 : (k : Int) < (m : Int) := by omega
                have hk0 : (0 : Int) ≤ (k : Int) := by omega
                obtain ⟨o, ho⟩ : ∃ o, (opsL L)[k]? = some o := ⟨_, List.getElem?_eq_getElem (by rw [← HMM.out]; exact hkm)⟩
                have hcell := HQ.out.cr.ro.get (by rw [intsV_len]; exact HMM.out.symm) (intsV_get ho)
                have hob := ops_bd o (List.mem_of_getElem? ho)
                rw [hln] at hob
                obtain ⟨z, hz⟩ : ∃ z, z = mv n o 1 := ⟨_, rfl⟩
                have hzb := mv_bd (n := n) (a := o) (b := 1) hn5
                rw [← hz] at hzb
                have htm : (o + 1).tmod (n : Int) = z := by rw [Int.tmod_eq_emod_of_nonneg (by omega), hz, mv_pos (by omega)]
                have hzm : z ∈ Y := by
                  obtain ⟨q, hq1, hq2⟩ := pT_all HML.out j0 ho
                  rw [hz, ← hln, hq2, HY.out]
                  exact List.mem_of_getElem? (pK2_get j0 (by rw [HM1.out, ← HN1.out, HMM.out]; exact hq1))
                have hlook := HQ.out.look z (keyOf_int_mk Try.underlying3 (WalkArith.wf_i64 (by omega))) hzm
                have hlen := len_any HQ.out.cr.co.pl
                rw [hln] at hlen
                have HLE := Lib.hid hlen
                clear ho hz hzm hlen
                go_wp2_with (go_at_call 39; (with_reducible refine HLE.out.mono ?_); rintro e w9 ⟨rfl, rfl⟩)
                go_roundw
                case rel => exact ⟨k + 1, by go_num, by omega, HQ.out⟩
                case measure => simp [intOf]; omega
              · obtain rfl : m = k := by omega
                have h10 := HQ.out
                have hFm : F = pT L (j0 + M) := by rw [HFF.out, HM1.out, ← HN1.out, HMM.out, pT_round]
                rw [hFm] at h10
                have HQ10 := Lib.hid (show CmQ w b g r c (pT L (j0 + (M - 0))) L gx n (.slice (some ⟨gr, 0, none⟩) m ocap) m (.slice (some ⟨gv, 0, none⟩) M vcap) M Y B mb M Y wr from h10)
                clear h10 hFm HQ
                go_wp2_with fail
                go_loopw [90] (fun q wy => ∃ k : Nat, q = .int .i64 k ∧ k ≤ M ∧ CmQ w b g r c (pT L (j0 + (M - k))) L gx n (.slice (some ⟨gr, 0, none⟩) m ocap) m (.slice (some ⟨gv, 0, none⟩) M vcap) M Y B mb M Y wy) (fun q _ => M - (intOf q).toNat)
                case atStart => exact ⟨0, rfl, Nat.zero_le _, HQ10.out⟩
                case round =>
                  obtain ⟨k, rfl, hk4, hq⟩ := hrel
                  have HQ := Lib.hid hq
                  clear hq HQ10
                  by_cases hkM : k < M
                  · have hkM2 : (k : Int) < (M : Int) := by omega
                    obtain ⟨i, hi⟩ : ∃ i, M = i + 1 + k := ⟨M - 1 - k, by omega⟩
                    obtain ⟨y, hy⟩ : ∃ y, y = pT L (j0 + i) := ⟨_, rfl⟩
                    have hYi : Y[i]? = some y := by rw [HY.out, hy]; exact pK2_get j0 (by omega)
                    have hcell := HQ.out.cr.rv.get (by rw [intsV_len, HYL.out]) (intsV_get hYi)
                    have HB := Lib.hid (show backC L (pT L (j0 + (M - k))) = y by rw [hy, show j0 + (M - k) = (j0 + i) + 1 by omega]; exact pT_back HML.out _)
                    have HNX := Lib.hid (show pT L (j0 + (M - (k + 1))) = y by rw [hy, show M - (k + 1) = i by omega])
                    have hs1 : IntKind.i64.wrap ((M : Int) - 1) = (M : Int) - 1 := IntWalk.i64_in _ (by omega)
                    have hs2 : IntKind.i64.wrap ((M : Int) - 1 - (k : Int)) = (i : Int) := by rw [show (M : Int) - 1 - (k : Int) = (i : Int) by omega]; exact IntWalk.i64_in _ (by omega)
                    have hi0' : (0 : Int) ≤ (i : Int) := by omega
                    have hi1 : (i : Int) < (M : Int) := by omega
                    have hyy : (y != y) = false := by simp
                    have HC9 := Lib.hid hcell
                    have HCD := Lib.hid (show wr.drew.cell? ⟨gv, i, none⟩ = some (.int .i64 y) from hcell)
                    have HI := Lib.hid hi
                    clear hy hYi hi hcell
                    go_wp2_with fail
                    go_region_held3 (fun X => X.cell? ⟨gv, i, none⟩ = some (.int .i64 y))
                      (with_reducible (first | assumption | exact HCD.out | exact HC9.out))
                      (first
                        | (go_at_call 29; (with_reducible refine (gop_k (back_cany (CoQ.pl (CrQ.co (CmQ.cr (CmQ.drew HQ.out)))) HBO.out) HB.out).mono ?_); rintro e w9 ⟨rfl, hp, ht⟩; have K9 := CmQ.go (CmQ.drew HQ.out) hp ht; have hcell9 : w9.cell? ⟨gv, i, none⟩ = some (.int .i64 y) := (cell_block (ht.block gv (World.block_lt_of_cell? _ ⟨gv, i, none⟩ HC9.out) (by have := (K9.cr.rv.no gv rfl).1; exact this)) i).trans HC9.out; clear hp ht))
                    all_goals
                      go_wp2
                      go_roundw
                      case rel => exact ⟨k + 1, by go_num, by have := HI.out; omega, by rw [HNX.out]; exact K9⟩
                      case measure => simp [intOf]; omega
                  · obtain rfl : M = k := by omega
                    have hl := World.ownsMap.len HQ.out.mp Try.underlying55 3
                    rw [seenM_size (by
                      rw [HY.out]
                      unfold pK2
                      rw [List.nodup_iff_pairwise_ne, List.pairwise_map]
                      refine (List.pairwise_lt_range (n := M)).imp_of_mem ?_
                      intro a b ha hb hlt he
                      have := pT_inj HML.out (a := j0) (i := a) (j := b) (by have := List.mem_range.1 ha; rw [← HMM.out, HN1.out, ← HM1.out]; exact this) (by have := List.mem_range.1 hb; rw [← HMM.out, HN1.out, ← HM1.out]; exact this) he
                      omega), HYL.out, show M = m by rw [HM1.out, HN1.out]] at hl
                    go_wp2
                    go_ret
                    exact ⟨rfl, HQ.out.cr.co.old⟩
end Go.Proofs.Ytlcjiffnmpkndaa.Pl
