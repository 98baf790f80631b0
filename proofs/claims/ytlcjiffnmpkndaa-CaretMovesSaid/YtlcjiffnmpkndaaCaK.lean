/-
  The reference of layer 19: where the cursor goes.
-/
import Derived.Test.YtlcjiffnmpkndaaCaJ
import Derived.Test.YtlcjiffnmpkndaaCaE
import Derived.Test.YtlcjiffnmpkndaaCaG
import Derived.BigQuiet
namespace Go.Proofs.Ytlcjiffnmpkndaa.Pl
open Go.RowKit Go.Shelf Base
set_option linter.unusedVariables false
set_option linter.unusedSimpArgs false

/-! ### Plainly -/
theorem nl_find {L : List Cl} {f : Int} (h0 : 0 ≤ f) (h1 : f < L.length) {i : Nat} (hi : i < L.length) (hno : ∀ j, j < i → opnL L (step L.length f j) = false) (ho : opnL L (step L.length f i) = true) :
    (if opnL L f = true then f else tabL L f) = step L.length f i := by
  have hst : ∀ j, mv L.length (step L.length f j) 1 = step L.length f (j + 1) := fun j => step_succ _ _ _ (by omega)
  cases i with
  | zero => rw [step_zero _ _ h0 h1] at ho ⊢; rw [if_pos ho]
  | succ k =>
    have hf := hno 0 (by omega)
    rw [step_zero _ _ h0 h1] at hf
    rw [if_neg (by rw [hf]; decide)]
    have hg : ∀ j, goodE L (step L.length f j) = true → opnL L (step L.length f (j + 1)) = true := by
      intro j hj
      have hb := step_bd L.length f j (by omega)
      rw [← hst, good_opn hb.1 hb.2, hj]; rfl
    have hk : goodE L (step L.length f k) = true := by
      have hb := step_bd L.length f k (by omega)
      rw [← hst, good_opn hb.1 hb.2, hno k (by omega)] at ho
      simpa using ho
    unfold tabL
    rw [betw_self _ _ h0 h1, ← hst]
    refine ehit (pre := first L.length f k) ?_ ?_ hk
    · rw [← first_succ, first_prefix L.length f (k + 1) L.length (by omega)]; exact List.take_prefix _ _
    · intro y hy
      obtain ⟨j, hj, rfl⟩ := List.mem_map.1 hy
      have hj' := List.mem_range.1 hj
      cases hgj : goodE L (step L.length f j) with
      | false => rfl
      | true =>
        have := hg j hgj
        rw [hno (j + 1) (by omega)] at this; cases this
theorem nl_nofind {L : List Cl} {f : Int} (h0 : 0 ≤ f) (h1 : f < L.length) (hno : ∀ j, j < L.length → opnL L (step L.length f j) = false) :
    (if opnL L f = true then f else tabL L f) = 0 := by
  have hst : ∀ j, mv L.length (step L.length f j) 1 = step L.length f (j + 1) := fun j => step_succ _ _ _ (by omega)
  have hf := hno 0 (by omega)
  rw [step_zero _ _ h0 h1] at hf
  rw [if_neg (by rw [hf]; decide)]
  unfold tabL
  rw [betw_self _ _ h0 h1]
  refine enone fun y hy => ?_
  obtain ⟨j, hj, rfl⟩ := List.mem_map.1 hy
  have hj' := List.mem_range.1 hj
  cases hgj : goodE L (step L.length f j) with
  | false => rfl
  | true =>
    have hb := step_bd L.length f j (by omega)
    have ho : opnL L (step L.length f (j + 1)) = true := by rw [← hst, good_opn hb.1 hb.2, hgj]; rfl
    by_cases hjn : j + 1 < L.length
    · rw [hno _ hjn] at ho; cases ho
    · have e : step L.length f (j + 1) = f := by
        unfold step
        rw [show f + ((j + 1 : Nat) : Int) = f + L.length by omega, Int.add_emod_right]
        exact Int.emod_eq_of_lt h0 h1
      rw [e, hf] at ho; cases ho
/-! ### The reference's -/
structure R9Q (w : World) (s gx n cap : Nat) (r c cur : Int) (L : List Cl) (W : World) : Prop where
  bx : W.heap[s]? = some (.cells #[.int .i64 r, .int .i64 c, .slice (some ⟨gx, 0, none⟩) n cap, .int .i64 cur] 29 (0, 0))
  rx : Rx W gx n cap L
  old : Below w.heap.size w W
section
variable {w W W' : World} {s gx n cap : Nat} {r c cur : Int} {L : List Cl}
theorem R9Q.below (h : R9Q w s gx n cap r c cur L W) (t : Below W.heap.size W W') : R9Q w s gx n cap r c cur L W' := ⟨(t.block _ (lt_of_block h.bx)).trans h.bx, h.rx.below t, h.old.trans (t.mono h.old.size)⟩
theorem R9Q.drew (h : R9Q w s gx n cap r c cur L W) : R9Q w s gx n cap r c cur L W.drew := h.below (below_dn W 1)
theorem R9Q.q (h : R9Q w s gx n cap r c cur L W) : W.cell? ⟨s, 0, none⟩ = some (.int .i64 r) ∧ W.cell? ⟨s, 1, none⟩ = some (.int .i64 c) ∧ W.cell? ⟨s, 2, none⟩ = some (.slice (some ⟨gx, 0, none⟩) n cap) ∧ W.cell? ⟨s, 3, none⟩ = some (.int .i64 cur) ∧ R9Q w s gx n cap r c cur L W :=
  ⟨by simp [World.cell?, h.bx], by simp [World.cell?, h.bx], by simp [World.cell?, h.bx], by simp [World.cell?, h.bx], h⟩
theorem R9Q.begin (hx : Rx w gx n cap L) (r c cur : Int) : R9Q w w.heap.size gx n cap r c cur L (w.alloc (.cells #[.int .i64 r, .int .i64 c, .slice (some ⟨gx, 0, none⟩) n cap, .int .i64 cur] 29)) :=
  ⟨heap_alloc_new _ _, hx.below (below_alloc _ _), below_alloc _ _⟩
end
theorem ops_len (L : List Cl) : (opsL L).length ≤ L.length := by
  unfold opsL
  refine Nat.le_trans (List.length_filter_le _ _) ?_
  simp [runN]
set_option maxHeartbeats 2000000 in
theorem rmove19_any {w : World} {gx n cap : Nat} {L : List Cl} (r c cur rows cols : Int) (hx : Rx w gx n cap L) (hsz : cells r c = (n : Int)) (hn1 : 1 ≤ n) : Calls Try.prog 20 #[xV r c (.slice (some ⟨gx, 0, none⟩) n cap) cur, .int .i64 rows, .int .i64 cols] w fun e W =>
    e = .returned (.int .i64 (ctMoveL n r c cur rows cols)) ∧ Below w.heap.size w W := by
  have hm := hx.most
  have hn : Hid (cells r c = (n : Int)) := Lib.hid hsz
  obtain ⟨hrc, hr1, hr2, hc1, hc2⟩ := cells_pos r c _ hsz (by omega)
  obtain ⟨z, hz⟩ : ∃ z, z = rows.tmod r := ⟨_, rfl⟩
  have hzs := tmod_small rows r hr1
  rw [← hz] at hzs
  have hds := mul_small hzs ⟨hr1, hr2⟩ ⟨hc1, hc2⟩
  obtain ⟨d, hd⟩ : ∃ d, d = z * c := ⟨_, rfl⟩
  rw [← hd] at hds
  have hrem : rows.tmod r = z := hz.symm
  have hr0 : (r == 0) = false := by rw [beq_eq_false_iff_ne]; omega
  have hr0' : (r = 0) = False := by rw [eq_iff_iff, iff_false]; omega
  have hmul : IntKind.i64.wrap (z * c) = d := by rw [← hd]; exact IntWalk.i64_in _ (by omega)
  obtain ⟨m, hmm⟩ : ∃ m, m = mv n cur d := ⟨_, rfl⟩
  obtain ⟨x, hxx⟩ : ∃ x, x = mv n m cols := ⟨_, rfl⟩
  have HX := Lib.hid hxx
  have HM := Lib.hid hmm
  have e : ctMoveL n r c cur rows cols = x := by unfold ctMoveL; rw [hrem, ← hd, ← hmm, ← hxx]
  rw [e]
  have h1 := R9Q.begin hx r c cur
  obtain ⟨W0, hW0⟩ : ∃ W0, W0 = w.alloc (.cells #[.int .i64 r, .int .i64 c, .slice (some ⟨gx, 0, none⟩) n cap, .int .i64 cur] 29) := ⟨_, rfl⟩
  rw [← hW0] at h1
  have H1 := Lib.hid h1
  have HW0 := Lib.hid hW0.symm
  clear hx hxx hmm hd hz e hrc h1 hW0 hsz
  unfold xV
  go_enter Try.func20, Try.ntmps20
  go_wp2_with fail
  rw [HW0.out]
  go_region_held3 (fun X => X.cell? ⟨w.heap.size, 0, none⟩ = some (.int .i64 r) ∧ X.cell? ⟨w.heap.size, 1, none⟩ = some (.int .i64 c) ∧ X.cell? ⟨w.heap.size, 2, none⟩ = some (.slice (some ⟨gx, 0, none⟩) n cap) ∧ X.cell? ⟨w.heap.size, 3, none⟩ = some (.int .i64 cur) ∧ R9Q w w.heap.size gx n cap r c cur L X)
    (with_reducible (first | assumption | exact R9Q.q H1.out.drew | exact R9Q.q (by assumption)))
    (first | (go_at_call 62; (with_reducible refine (rmove_any r c cur d n W0.drew hn (by omega) (by omega)).mono ?_); rintro e w2 ⟨he, hb2⟩; rw [← HM.out] at he; subst he; have K2 := R9Q.below H1.out.drew hb2; clear hb2))
  all_goals
    have HK2 := Lib.hid K2
    obtain ⟨q0, q1, q2, q3, _⟩ := K2.q
    clear K2
    go_wp2_with (go_at_call 62; refine (rmove_any r c m cols n w2 hn (by omega) (by omega)).mono ?_; rintro e w3 ⟨he, hb3⟩; rw [← HX.out] at he; subst he; have K3 := Lib.hid (HK2.out.below hb3); clear hb3)
    go_ret
    exact ⟨rfl, K3.out.old⟩
/-- The row of the open fields, beside the box. -/
structure R9R (w : World) (s gx n cap : Nat) (r c cur : Int) (L : List Cl) (ov : Value) (m : Nat) (W : World) : Prop where
  q : R9Q w s gx n cap r c cur L W
  row : W.ownsRow 0 3 1 ov m (intsV (opsL L))
theorem R9R.below {w W W' : World} {s gx n cap : Nat} {r c cur : Int} {L : List Cl} {ov : Value} {m : Nat} (h : R9R w s gx n cap r c cur L ov m W) (t : Below W.heap.size W W') : R9R w s gx n cap r c cur L ov m W' :=
  ⟨h.q.below t, row_turn h.row (S := fun _ => False) (Turn.of_below t) (fun _ _ => id)⟩
theorem R9R.get {w W : World} {s gx n cap : Nat} {r c cur : Int} {L : List Cl} {go m oc : Nat} (h : R9R w s gx n cap r c cur L (.slice (some ⟨go, 0, none⟩) m oc) m W) {i : Nat} {x : Int} (hx : (opsL L)[i]? = some x) (hm : m = (opsL L).length) : W.cell? ⟨go, i, none⟩ = some (.int .i64 x) := by
  have hi : i < m := by rw [hm]; exact (List.getElem?_eq_some_iff.1 hx).1
  refine (h.row.cellAt i (show i < m * 1 by omega)).trans ?_
  unfold intsV; rw [List.getElem?_map, hx]; rfl
set_option maxRecDepth 100000 in
set_option maxHeartbeats 4000000 in
theorem rtab19_any {w : World} {gx n cap : Nat} {L : List Cl} (r c cur a : Int) (hx : Rx w gx n cap L) (hbo : BoL L) (ha : 0 ≤ a ∧ a < n) : Calls Try.prog 21 #[xV r c (.slice (some ⟨gx, 0, none⟩) n cap) cur, .int .i64 a] w fun e W =>
    e = .returned (.int .i64 (tabL L a)) ∧ Below w.heap.size w W := by
  have hm := hx.most
  have hln := hx.len
  obtain ⟨t, ht⟩ : ∃ t, t = tabL L a := ⟨_, rfl⟩
  have hte : t = nextO n (opsL L) a := by rw [ht, tab_eq ha.1 (by rw [hln]; exact ha.2), hln]
  rw [← ht]
  have HT := Lib.hid hte
  have h1 := R9Q.begin hx r c cur
  obtain ⟨W0, hW0⟩ : ∃ W0, W0 = w.alloc (.cells #[.int .i64 r, .int .i64 c, .slice (some ⟨gx, 0, none⟩) n cap, .int .i64 cur] 29) := ⟨_, rfl⟩
  rw [← hW0] at h1
  have H1 := Lib.hid h1
  have HW0 := Lib.hid hW0.symm
  obtain ⟨q0, q1, q2, q3, _⟩ := h1.q
  have hol := ops_len L
  rw [hln] at hol
  obtain ⟨m, hmm⟩ : ∃ m, m = (opsL L).length := ⟨_, rfl⟩
  have HMM := Lib.hid hmm
  have hop := ropens_any r c cur h1.rx hbo
  rw [← hmm] at hop hol
  have HOP := Lib.hid hop
  unfold xV at HOP ⊢
  have hn1 : 1 ≤ n := by omega
  clear hx ht hte h1 hW0 hop hmm
  have hm0 : m = 0 ∨ 1 ≤ m := by omega
  rcases hm0 with hm0 | hm1
  · have hm2 : (m : Int) = 0 := by omega
    have hnil : opsL L = [] := List.eq_nil_of_length_eq_zero (by rw [← HMM.out]; exact hm0)
    have HT0 := Lib.hid (show t = 0 by rw [HT.out, hnil]; rfl)
    clear hnil
    go_enter Try.func21, Try.ntmps21
    go_wp2_with fail
    rw [HW0.out]
    go_wp2_with (go_at_call 36; (with_reducible refine HOP.out.mono ?_); rintro e w1 ⟨ov, rfl, hor, hol, hb1⟩; obtain ⟨oa, ocap, rfl, hoa⟩ := rrow_shape hor; have B1 := Lib.hid (H1.out.old.trans (hb1.mono H1.out.old.size)); clear hor hol hoa hb1)
    go_ret
    rw [HT0.out]
    exact ⟨rfl, B1.out⟩
  · have hmz : ((m : Int) == 0) = false := by rw [beq_eq_false_iff_ne]; omega
    obtain ⟨o0, ho0⟩ : ∃ o0, (opsL L)[0]? = some o0 := ⟨_, List.getElem?_eq_getElem (by rw [← HMM.out]; exact hm1)⟩
    have HO0 := Lib.hid ho0
    have hmi : (0 : Int) < (m : Int) := by omega
    have hm60 : (m : Int) ≤ 4096 := by omega
    clear ho0
    go_enter Try.func21, Try.ntmps21
    go_wp2_with fail
    rw [HW0.out]
    go_upto_region 4 with (go_at_call 36; (with_reducible refine HOP.out.mono ?_); rintro e w1 ⟨ov, rfl, hor, hol, hb1⟩; obtain ⟨oa, ocap, rfl, hoa⟩ := rrow_shape hor; have HR1 := Lib.hid (show R9R w w.heap.size gx n cap r c cur L (.slice oa m ocap) m w1 from ⟨H1.out.below hb1, hor⟩); clear hor hol hb1)
    obtain ⟨gr, rfl⟩ := hoa (by omega)
    have g0 := HR1.out.get HO0.out HMM.out
    clear hoa q0 q1 q2 q3
    go_wp2_with fail
    go_loopw [6, 7] (fun p q wr => ∃ (k : Nat) (B x : Int), p = .int .i64 B ∧ q = .int .i64 x ∧ Hid (x = (k : Int) - 1) ∧ k ≤ m ∧ Hid (B = (((opsL L).drop k).find? (fun o => decide (a ≤ o))).getD o0) ∧ R9R w w.heap.size gx n cap r c cur L (.slice (some ⟨gr, 0, none⟩) m ocap) m wr) (fun _ q _ => (intOf q + 1).toNat)
    case atStart => exact ⟨m, o0, _, rfl, rfl, Lib.hid rfl, Nat.le_refl _, Lib.hid (by rw [List.drop_of_length_le (by rw [HMM.out]; exact Nat.le_refl _)]; rfl), HR1.out⟩
    case round =>
      obtain ⟨k, B, x, rfl, rfl, hxk, hk, hB, hq⟩ := hrel
      have HQ := Lib.hid hq
      rcases Nat.eq_zero_or_pos k with rfl | hk0
      · have hx1 : x = -1 := by have := hxk.out; omega
        subst hx1
        have hBb : 0 ≤ B ∧ B < n := by
          rw [hB.out, List.drop_zero]
          cases hf : (opsL L).find? (fun o => decide (a ≤ o)) with
          | none => have := (mem_ops.1 (List.mem_of_getElem? HO0.out)).1; rw [hln] at this; exact this
          | some o => have := (mem_ops.1 (List.mem_of_find?_eq_some hf)).1; rw [hln] at this; exact this
        have hend : t = mv n B 1 := by
          rw [HT.out]
          unfold nextO
          rw [hB.out, List.drop_zero]
          cases hf : (opsL L).find? (fun o => decide (a ≤ o)) with
          | none => show headN n (opsL L) = mv n o0 1; unfold headN; rw [List.head?_eq_getElem?, HO0.out]
          | some o => rfl
        obtain ⟨q0, q1, q2, q3, _⟩ := hq.q.q
        have hrem : (B + 1).tmod (n : Int) = t := by rw [Int.tmod_eq_emod_of_nonneg (by omega), hend, mv_pos (by omega)]
        have hn0 : (0 : Int) < (n : Int) := by omega
        have HE := Lib.hid hend
        clear hq hend hB hxk
        go_wp2
        go_ret
        exact ⟨rfl, HQ.out.q.old⟩
      · obtain ⟨j, rfl⟩ : ∃ j, k = j + 1 := ⟨k - 1, by omega⟩
        have hx1 : x = (j : Int) := by have := hxk.out; omega
        subst hx1
        have hj0 : (0 : Int) ≤ (j : Int) := by omega
        have hj1 : (j : Int) < (m : Int) := by omega
        obtain ⟨o, ho⟩ : ∃ o, (opsL L)[j]? = some o := ⟨_, List.getElem?_eq_getElem (by rw [← HMM.out]; omega)⟩
        have gc := hq.get ho HMM.out
        have hdr : (opsL L).drop j = o :: (opsL L).drop (j + 1) := by
          obtain ⟨h1, h2⟩ := List.getElem?_eq_some_iff.1 ho
          rw [List.drop_eq_getElem_cons h1, h2]
        have HDR := Lib.hid hdr
        clear hq hdr ho hxk
        by_cases hao : a ≤ o
        · go_wp2
          go_roundw
          case rel => exact ⟨j, o, (j : Int) - 1, rfl, by go_num, Lib.hid rfl, by omega, Lib.hid (by rw [HDR.out]; simp [List.find?, hao]), HQ.out⟩
          case measure => simp [intOf]
        · have hoa : o < a := by omega
          go_wp2
          go_roundw
          case rel => exact ⟨j, B, (j : Int) - 1, rfl, by go_num, Lib.hid rfl, by omega, Lib.hid (by rw [hB.out, HDR.out]; simp [List.find?, hao]), HQ.out⟩
          case measure => simp [intOf]
end Go.Proofs.Ytlcjiffnmpkndaa.Pl
