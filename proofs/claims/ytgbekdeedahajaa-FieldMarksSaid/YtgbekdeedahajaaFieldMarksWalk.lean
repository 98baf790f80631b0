/-
  The walk of FieldMarks.
-/
import Derived.Test.YtgbekdeedahajaaFlZ
import Derived.Test.YtgbekdeedahajaaFmP
import Derived.Test.YtgbekdeedahajaaFlR
namespace Go.Proofs.Ytgbekdeedahajaa.Pl
open Go.RowKit Go.Shelf Base
set_option linter.unusedVariables false
set_option linter.unusedSimpArgs false

/-- The plane, and the document's in a box q. -/
structure MkS (w : World) (b g q gx n cap : Nat) (r c : Int) (M X : List Cl) (W : World) : Prop where
  pl : PlAt W b g r c 0 M
  bx : W.heap[q]? = some (.cells #[.int .i64 r, .int .i64 c, .slice (some ⟨gx, 0, none⟩) n cap, .int .i64 0] 28 (0, 0))
  rx : Rx W gx n cap X
  ne : gx ≠ g
  qg : q ≠ g
  gs : g < W.heap.size
  lo : w.heap.size ≤ q
  lg : w.heap.size ≤ g
  lb : b ≠ q
  old : Below w.heap.size w W
section
variable {w W W' : World} {b g q gx n cap : Nat} {r c : Int} {M M' X : List Cl}
theorem MkS.below (h : MkS w b g q gx n cap r c M X W) (t : Below W.heap.size W W') : MkS w b g q gx n cap r c M X W' :=
  ⟨h.pl.below t, (t.block _ (lt_of_block h.bx)).trans h.bx, h.rx.below t, h.ne, h.qg, by have := h.gs; have := t.size; omega, h.lo, h.lg, h.lb, h.old.trans (t.mono h.old.size)⟩
theorem MkS.q4 (h : MkS w b g q gx n cap r c M X W) : W.cell? ⟨q, 0, none⟩ = some (.int .i64 r) ∧ W.cell? ⟨q, 1, none⟩ = some (.int .i64 c) ∧ W.cell? ⟨q, 2, none⟩ = some (.slice (some ⟨gx, 0, none⟩) n cap) ∧ W.cell? ⟨q, 3, none⟩ = some (.int .i64 0) ∧ ∀ o, W.frozen? ⟨q, o, none⟩ = false :=
  ⟨by simp [World.cell?, h.bx], by simp [World.cell?, h.bx], by simp [World.cell?, h.bx], by simp [World.cell?, h.bx], fun o => by simp [World.frozen?, h.bx]⟩
/-- Behind a turn of the plane's own cells. -/
theorem MkS.turn (h : MkS w b g q gx n cap r c M X W) (hp : PlAt W' b g r c 0 M') (t : Turn (At g) W W') : MkS w b g q gx n cap r c M' X W' :=
  ⟨hp, (t.block q (lt_of_block h.bx) h.qg).trans h.bx, ⟨own_keep h.rx.row t.size (t.block gx h.rx.lt h.ne), h.rx.len, h.rx.most⟩, h.ne, h.qg, by have := h.gs; have := t.size; omega, h.lo, h.lg, h.lb, h.old.trans (t.at_below h.old.size h.lg)⟩
/-- The document's plane is turned, and stored in its box. -/
theorem MkS.mark (h : MkS w b g q gx n cap r c M X W) (t : Below W.heap.size W W') {g' cap' : Nat} {X' : List Cl} (hx : Rx W' g' n cap' X') (hg : g' = gx ∨ W.heap.size ≤ g') :
    MkS w b g q g' n cap' r c M X' ((((W'.setCell ⟨q, 0, none⟩ (.int .i64 r)).setCell ⟨q, 1, none⟩ (.int .i64 c)).setCell ⟨q, 2, none⟩ (.slice (some ⟨g', 0, none⟩) n cap')).setCell ⟨q, 3, none⟩ (.int .i64 0)) := by
  have h' := h.below t
  have hT := put4_turn W' q (.int .i64 r) (.int .i64 c) (.slice (some ⟨g', 0, none⟩) n cap') (.int .i64 0)
  have hgq : ¬ g' = q := by
    intro e
    obtain ⟨cs, e'⟩ := row_typed hx.row g' rfl
    rw [e, h'.bx] at e'; cases e'
  refine ⟨h'.pl.keep hT.size (hT.block b h'.pl.lt (fun e => h.lb e)) (hT.block g h'.pl.ltg (fun e => h.qg e.symm)), put4_blk h'.bx _ _ _ _, ⟨own_keep hx.row hT.size (hT.block g' hx.lt hgq), hx.len, hx.most⟩, ?_, h.qg, by have := h'.gs; have := hT.size; omega, h.lo, h.lg, h.lb, h'.old.trans (hT.at_below h'.old.size h.lo)⟩
  have := h.gs
  rcases hg with e | e
  · rw [e]; exact h.ne
  · omega
/-- The same beside the row of all fields, of which i are unmarked. -/
structure MkI (w : World) (b g q gx n cap : Nat) (r c : Int) (M : List Cl) (vl : Value) (m i : Nat) (W : World) : Prop where
  st : MkS w b g q gx n cap r c M (unmL M ((allL M).take i)) W
  row : W.ownsRow 0 40 3 vl m (flatF (allL M))
theorem MkI.below {vl : Value} {m i : Nat} (h : MkI w b g q gx n cap r c M vl m i W) (t : Below W.heap.size W W') : MkI w b g q gx n cap r c M vl m i W' :=
  ⟨h.st.below t, row_turn h.row (S := fun _ => False) (Turn.of_below t) (fun _ _ => id)⟩
theorem MkI.fd {gl capl m i j : Nat} (h : MkI w b g q gx n cap r c M (.slice (some ⟨gl, 0, none⟩) m capl) m i W) {f : Fd} (hm : m = (allL M).length) (hf : (allL M)[j]? = some f) : W.cell? ⟨gl, j * 3, none⟩ = some (.int .i64 f.s) ∧ W.cell? ⟨gl, j * 3 + 1, none⟩ = some (.int .i64 f.k) ∧ W.cell? ⟨gl, j * 3 + 2, none⟩ = some (.int .u8 f.a) := by
  have hi : j < m := by rw [hm]; exact (List.getElem?_eq_some_iff.1 hf).1
  obtain ⟨f0, f1, f2⟩ := rflatF_get _ j f hf
  exact ⟨(h.row.cellAt _ (by omega)).trans f0, (h.row.cellAt _ (by omega)).trans f1, (h.row.cellAt _ (by omega)).trans f2⟩
/-- One more is unmarked. -/
theorem MkI.mark {vl : Value} {m i : Nat} (h : MkI w b g q gx n cap r c M vl m i W) (t : Below W.heap.size W W') {g' cap' : Nat} {f : Fd} (hf : (allL M)[i]? = some f) (hmo : f.a % 2 = 1) (hB : BoL M) (hx : Rx W' g' n cap' (mkL (unmL M ((allL M).take i)) f.s false)) (hg : g' = gx ∨ W.heap.size ≤ g') :
    MkI w b g q g' n cap' r c M vl m (i + 1) ((((W'.setCell ⟨q, 0, none⟩ (.int .i64 r)).setCell ⟨q, 1, none⟩ (.int .i64 c)).setCell ⟨q, 2, none⟩ (.slice (some ⟨g', 0, none⟩) n cap')).setCell ⟨q, 3, none⟩ (.int .i64 0)) := by
  obtain ⟨h1, h2⟩ := List.getElem?_eq_some_iff.1 hf
  have hu : unmL M ((allL M).take (i + 1)) = mkL (unmL M ((allL M).take i)) f.s false := by
    rw [mk_false hB _ (List.mem_of_getElem? hf), List.take_succ_eq_append_getElem h1, unmL_snoc, h2, if_pos (by unfold Attr.modi; simpa using hmo)]
  rw [← hu] at hx
  refine ⟨h.st.mark t hx hg, ?_⟩
  have h' := h.below t
  have hT := put4_turn W' q (.int .i64 r) (.int .i64 c) (.slice (some ⟨g', 0, none⟩) n cap') (.int .i64 0)
  refine row_turn h'.row hT (fun j hj e => ?_)
  obtain ⟨cs, e1⟩ := row_typed h'.row j hj
  have e2 : j = q := e
  rw [e2, h'.st.bx] at e1; cases e1
/-- None is unmarked here. -/
theorem MkI.next {vl : Value} {m i : Nat} (h : MkI w b g q gx n cap r c M vl m i W) {f : Fd} (hf : (allL M)[i]? = some f) (hmo : ¬ f.a % 2 = 1) : MkI w b g q gx n cap r c M vl m (i + 1) W := by
  obtain ⟨h1, h2⟩ := List.getElem?_eq_some_iff.1 hf
  have hu : unmL M ((allL M).take (i + 1)) = unmL M ((allL M).take i) := by
    rw [List.take_succ_eq_append_getElem h1, unmL_snoc, h2, if_neg (by unfold Attr.modi; simpa using hmo)]
  exact ⟨by rw [hu]; exact h.st, h.row⟩
end
theorem unmN_take (M : List Cl) {m i : Nat} (hm : m = (allL M).length) {f : Fd} (hf : (allL M)[i]? = some f) : unmN ((allL M).take (i + 1)) = unmN ((allL M).take i) + if f.a % 2 = 1 then 1 else 0 := by
  obtain ⟨h1, h2⟩ := List.getElem?_eq_some_iff.1 hf
  rw [List.take_succ_eq_append_getElem h1, unmN_snoc, h2]
  unfold Attr.modi
  simp
set_option maxRecDepth 100000 in
set_option maxHeartbeats 8000000 in
theorem fieldMarks_law {w : World} (r c : Int) {p1 p2 : Prop} {p3 : Int → Prop} (_ : p1) (_ : p2) (v0 : Value) (L0 : List Cl) (hL : ClsAt w v0 L0 ∧ L0.length ≤ maxLen ∧ ∀ x ∈ L0, x.Ok) (vt : Value) (T : List Int) (hT : RowOf .i64 w vt T ∧ T.length ≤ maxLen ∧ ∀ n ∈ T, p3 n) :
    Calls Try.prog 4 #[.agg #[.int .i64 r, .int .i64 c], v0, vt] w fun e W => e = .returned (.bool true) ∧ Below w.heap.size w W := by
  obtain ⟨hv, hm, hok⟩ := hL
  obtain ⟨ht, htm, _⟩ := hT
  obtain ⟨a0, cap0, hv0, _⟩ := id hv
  subst hv0
  obtain ⟨m0, hm0⟩ : ∃ m0, m0 = L0.length := ⟨_, rfl⟩
  have HV := Lib.hid hv
  have HM := Lib.hid hm
  have HOK := Lib.hid hok
  rw [← hm0] at HV hm ⊢
  have HM0 := Lib.hid hm0
  obtain ⟨W0, hW0⟩ : ∃ W0, W0 = w.alloc (.cells #[.int .i64 r, .int .i64 c] 23) := ⟨_, rfl⟩
  have hn0 : W0.heap[w.heap.size]? = some (.cells #[.int .i64 r, .int .i64 c] 23 (0, 0)) := by rw [hW0]; exact heap_alloc_new w _
  have HN0 := Lib.hid hn0
  have B0 := Lib.hid (show Below w.heap.size w W0 by rw [hW0]; exact below_alloc w _)
  have HW0 := Lib.hid hW0.symm
  clear hv hok hm0 hW0 hn0 hm
  obtain ⟨at0, capt, hvt, htc⟩ := id ht
  subst hvt
  obtain ⟨mt, hmt⟩ : ∃ mt, mt = T.length := ⟨_, rfl⟩
  rw [← hmt] at htm ht ⊢
  have HMT := Lib.hid hmt
  have HT := Lib.hid ht
  have HTC := Lib.hid htc
  unfold maxLen at htm
  clear hmt ht htc
  go_enter Try.func4, Try.ntmps4
  go_wp2_with fail
  rw [HW0.out]
  go_wp2_with (go_at_call 13; (with_reducible refine (fld_alive W0).mono ?_); rintro e w1 ⟨rfl, hb1⟩
               have n1 := (hb1.block _ (lt_of_block HN0.out)).trans HN0.out
               have q0 : w1.cell? ⟨w.heap.size, 0, none⟩ = some (.int .i64 r) := by simp [World.cell?, n1]
               have q1 : w1.cell? ⟨w.heap.size, 1, none⟩ = some (.int .i64 c) := by simp [World.cell?, n1]
               have B1 := Lib.hid (B0.out.trans (hb1.mono B0.out.size)); clear hb1 n1)
  go_at_call 14
  refine (made_any r c (.slice a0 m0 cap0) L0 w1 (HV.out.below (B1.out.mono (Nat.le_refl _))) HM.out).mono ?_
  rintro e w2 (⟨hno, pv, r', c', a', l', k', rfl, hb2⟩ | ⟨b, g, gx, n, hcn, hn1, hn2, rfl, hpl, hrow, hb, hg, hgx, hgb, hgg, hb2⟩)
  · unfold xV
    go_wp2_with fail
    go_ret
    exact ⟨rfl, B1.out.trans ((hb2.mono B1.out.size).alloc (by have := B1.out.size; have := hb2.size; omega) _)⟩
  · unfold xV
    obtain ⟨L, hL⟩ : ∃ L, L = mL n L0 L0.length := ⟨_, rfl⟩
    rw [← hL] at hpl hrow
    have hlen : L.length = n := by rw [hL, mL_length]
    have hbo : BoL L := bo_of_ok (by rw [hL]; exact mL_ok n HOK.out _)
    obtain ⟨q, hq⟩ : ∃ q, q = w2.heap.size := ⟨_, rfl⟩
    have hs1 := B1.out.size
    have hs2 := hb2.size
    have hl1 := hpl.lt
    have hl2 := hpl.ltg
    have HS0 := Lib.hid (show MkS w b g q gx n n r c L L (w2.alloc (.cells #[.int .i64 r, .int .i64 c, .slice (some ⟨gx, 0, none⟩) n n, .int .i64 0] 28)) from
      ⟨hpl.alloc _, by rw [hq]; exact heap_alloc_new w2 _, ⟨hrow.alloc _, hlen, by omega⟩, by omega, by omega, by rw [World.size_alloc]; omega, by omega, by omega, by omega, (B1.out.trans (hb2.mono hs1)).alloc (by omega) _⟩)
    have HB := Lib.hid hbo
    have HQ := Lib.hid hq
    clear hpl hrow hb2 hL hcn q0 q1 hb hg hgx hgb hgg hlen hbo hs1 hs2 hl1 hl2 hq
    go_upto_region 4 with fail
    rw [← HQ.out]
    obtain ⟨w3, hw3⟩ : ∃ w3, w3 = w2.alloc (.cells #[.int .i64 r, .int .i64 c, .slice (some ⟨gx, 0, none⟩) n n, .int .i64 0] 28) := ⟨_, rfl⟩
    rw [← hw3] at HS0 ⊢
    clear hw3 HQ
    by_cases hm30 : mt > 30
    · have hmi : (30 : Int) < (mt : Int) := by omega
      go_wp2
      go_ret
      exact ⟨rfl, HS0.out.old⟩
    have hmi : ¬ (30 : Int) < (mt : Int) := by omega
    go_wp2_with fail
    go_loopw [35] (fun p wr => ∃ (k gx' cap' : Nat) (M : List Cl), p = .int .i64 k ∧ k ≤ mt ∧ BoL M ∧ MkS w b g q gx' n cap' r c M M wr) (fun p _ => mt - (intOf p).toNat)
    case atStart => exact ⟨0, gx, n, L, rfl, Nat.zero_le _, HB.out, HS0.out⟩
    case round =>
      obtain ⟨k, gx', cap', M, rfl, hk, hbo, hs⟩ := hrel
      have HS := Lib.hid hs
      have HBM := Lib.hid hbo
      clear HS0 HB
      by_cases hk1 : k < mt
      · have hki : (k : Int) < (mt : Int) := by omega
        obtain ⟨at1, capt1, e1, htc1⟩ := HT.out.below hs.old
        injection e1 with e2 e3 e4
        subst e2
        obtain ⟨tb, toff, e5, htc2⟩ := htc1 (by intro e; rw [e, List.length_nil] at e3; omega)
        subst e5
        obtain ⟨y, hy⟩ : ∃ y, y = T[k]?.getD 0 := ⟨_, rfl⟩
        have hcy := htc2 k (by rw [← HMT.out]; exact hk1)
        rw [← hy] at hcy
        clear htc1 htc2 e3 e4 hy
        obtain ⟨f, hf⟩ : ∃ f, f = ofF M y := ⟨_, rfl⟩
        obtain ⟨bo, hbe⟩ : ∃ bo, bo = isF M y := ⟨_, rfl⟩
        have hof := rof_any r c 0 y hs.rx hbo
        rw [← hf, ← hbe] at hof
        unfold xV Fd.rval at hof
        have HOF := Lib.hid hof
        have HBE := Lib.hid hbe
        obtain ⟨x0, x1, x2, x3, _⟩ := hs.q4
        have hne : (bo != bo) = false := by simp
        clear hof hf hbe hs hbo
        go_wp2_with (first
          | (go_at_call 28; go_loud ((with_reducible refine HOF.out.mono ?_); rintro e w4 ⟨rfl, hb4⟩; have S4 := Lib.hid ((HS.out.below hb4).below (below_alloc w4 (.cells #[.int .i64 f.s, .int .i64 f.k, .int .u8 f.a] 40))); obtain ⟨y0, y1, y2, y3, _⟩ := S4.out.q4; clear hb4))
          | (go_at_call 34; go_loud (have hmk := rmark_any r c 0 y true S4.out.rx HBM.out; unfold xV at hmk; refine hmk.mono ?_; clear hmk; rintro e w5 ⟨g', cap2, rfl, hrx5, hg5, hb5⟩; rw [mk_true] at hrx5; have S5 := Lib.hid (S4.out.mark hb5 hrx5 hg5); obtain ⟨_, _, _, _, fz5⟩ := (S4.out.below hb5).q4; clear hrx5 hg5 hb5))
          | (go_at_call 35; go_loud (refine (mark_any S5.out.pl y HBM.out).mono ?_; rintro e w6 ⟨he, hp6, ht6⟩; rw [← HBE.out] at he; subst he; have S6 := Lib.hid (S5.out.turn hp6 ht6); obtain ⟨z0, z1, z2, z3, _⟩ := S6.out.q4; clear hp6 ht6))
          | (go_at_call 36; go_loud (have hsm := lsame_true S6.out.pl S6.out.rx.row S6.out.rx.len; unfold xV at hsm; refine hsm.mono ?_; clear hsm; rintro e w7 ⟨rfl, hb7⟩; have S7 := Lib.hid (S6.out.below hb7); clear hb7)))
        exact ⟨⟨k + 1, _, _, _, by go_num, by omega, mark_bo HBM.out y, S7.out⟩, by simp [intOf]; omega⟩
      · obtain rfl : mt = k := by omega
        have hki : ¬ (mt : Int) < (mt : Int) := by omega
        obtain ⟨x0, x1, x2, x3, _⟩ := hs.q4
        have hml : M.length = n := hs.rx.len
        clear hs hbo
        go_wp2_with (first
          | (go_at_call 15; go_loud (have hal := rall_any r c 0 HS.out.rx HBM.out; unfold xV at hal; refine hal.mono ?_; clear hal; rintro e w4 ⟨vl, rfl, hrow, hb4⟩; obtain ⟨al, capl, hvl, hsl⟩ := rrow_shape hrow; subst hvl; have S4 := Lib.hid (HS.out.below hb4); have HRL := Lib.hid hrow; have HSL := Lib.hid hsl; clear hrow hb4 hsl)))
        obtain ⟨m, hmm⟩ : ∃ m, m = (allL M).length := ⟨_, rfl⟩
        have hmn : m ≤ n := by have := allK_most M (fun _ => M) M.length; rw [hmm, ← hml]; exact this
        rw [← hmm] at HRL HSL ⊢
        have HMM := Lib.hid hmm
        have HI0 := Lib.hid (show MkI w b g q gx' n cap' r c M (.slice al m capl) m 0 w4 from ⟨S4.out, HRL.out⟩)
        clear hmm x0 x1 x2 x3 HS S4 HRL
        go_loopw [14, 63] (fun p1 p2 wr => ∃ (i gx2 cap2 : Nat), p1 = .int .i64 (unmN ((allL M).take i)) ∧ p2 = .int .i64 i ∧ i ≤ m ∧ MkI w b g q gx2 n cap2 r c M (.slice al m capl) m i wr) (fun _ p2 _ => m - (intOf p2).toNat)
        case atStart => exact ⟨0, gx', cap', rfl, rfl, Nat.zero_le _, HI0.out⟩
        case round =>
          obtain ⟨i, gx2, cap2, rfl, rfl, him, hs⟩ := hrel
          have HI := Lib.hid hs
          clear HI0
          by_cases hi1 : i < m
          · have hii : (i : Int) < (m : Int) := by omega
            obtain ⟨gl, rfl⟩ := HSL.out (by omega)
            obtain ⟨f, hf⟩ : ∃ f, (allL M)[i]? = some f := ⟨_, List.getElem?_eq_getElem (by rw [← HMM.out]; exact hi1)⟩
            have HF := Lib.hid hf
            have hmem := List.mem_of_getElem? hf
            have HMEM := Lib.hid hmem
            have hfa := begF_a M HBM.out f.s
            obtain ⟨sp, _, _, _, hfe⟩ := mem_allL hmem
            have hfa2 : 0 ≤ f.a ∧ f.a ≤ 255 := by rw [hfe]; exact begF_a M HBM.out sp
            obtain ⟨e0, e1, e2⟩ := hs.fd HMM.out hf
            obtain ⟨x0, x1, x2, x3, _⟩ := hs.st.q4
            have hns := unmN_take M HMM.out hf
            obtain ⟨nc, hnc⟩ : ∃ nc, nc = unmN ((allL M).take i) := ⟨_, rfl⟩
            rw [← hnc] at hns ⊢
            have hncb : nc ≤ 4096 := by rw [hnc]; unfold unmN; have := List.length_filter_le (fun f => Attr.modi f.a) ((allL M).take i); rw [List.length_take] at this; omega
            have htm : f.a.tmod 2 = f.a % 2 := Int.tmod_eq_emod_of_nonneg (by omega)
            have hw2 : IntKind.u8.wrap (f.a % 2) = f.a % 2 := by simp [IntKind.wrap, IntKind.bits]; omega
            have HNS := Lib.hid hns
            clear hs hf hmem hfa hfe hns hnc
            by_cases hmo : f.a % 2 = 1
            · have hmo2 : (f.a % 2 == 1) = true := by simpa using hmo
              have HMO := Lib.hid hmo
              clear hmo
              have HJ := Lib.hid (HI.out.below (below_alloc wr (.cells #[.int .i64 f.s, .int .i64 f.k, .int .u8 f.a] 40)))
              obtain ⟨y0, y1, y2, y3, _⟩ := HJ.out.st.q4
              go_wp2_with (go_at_call 34; go_loud (have hmk := rmark_any r c 0 f.s false HJ.out.st.rx (unmL_keeps M HBM.out _).2.2; unfold xV at hmk; refine hmk.mono ?_; clear hmk; rintro e w5 ⟨g', cap3, rfl, hrx5, hg5, hb5⟩; have S5 := Lib.hid (HJ.out.mark hb5 HF.out HMO.out HBM.out hrx5 hg5); obtain ⟨_, _, _, _, fz5⟩ := (HJ.out.below hb5).st.q4; clear hrx5 hg5 hb5))
              exact ⟨⟨i + 1, _, _, by rw [HNS.out, if_pos HMO.out]; go_num, by go_num, by omega, S5.out⟩, by simp [intOf]; omega⟩
            · have hmo2 : (f.a % 2 == 1) = false := by simpa using hmo
              have HMO := Lib.hid hmo
              clear hmo
              go_wp2
              exact ⟨⟨i + 1, gx2, cap2, by rw [HNS.out, if_neg HMO.out, Nat.add_zero], by go_num, by omega, (HI.out.next HF.out HMO.out).below (below_alloc _ _)⟩, by simp [intOf]; omega⟩
          · obtain rfl : m = i := by omega
            have hii : ¬ (m : Int) < (m : Int) := by omega
            have hta : (allL M).take m = allL M := by rw [HMM.out, List.take_length]
            have hst := hs.st
            rw [hta] at hst ⊢
            have HSX := Lib.hid hst
            obtain ⟨nc, hnc⟩ : ∃ nc, nc = unmN (allL M) := ⟨_, rfl⟩
            have hum := unmark_any hst.pl HBM.out
            rw [unmF_all HBM.out, ← hnc] at hum
            have HUM := Lib.hid hum
            have hbk := (unmL_keeps M HBM.out (allL M)).2.2
            have HBK := Lib.hid hbk
            rw [← hnc]
            clear hs hta hst hum hbk hnc
            go_wp2_with (first
              | (go_at_call 36; go_loud (have hsm := lsame_true S6.out.pl S6.out.rx.row S6.out.rx.len; unfold xV at hsm; refine hsm.mono ?_; clear hsm; rintro e w7 ⟨rfl, hb7⟩; have S7 := Lib.hid (S6.out.below hb7); clear hb7))
              | (go_at_call 37; (refine (unmark_any S7.out.pl HBK.out).mono ?_; rintro e w8 ⟨he, hp8, ht8⟩; rw [unm_none HBM.out] at he; subst he; have S8 := Lib.hid (S7.out.turn hp8 ht8); clear hp8 ht8))
              | (go_at_call 37; go_loud (refine HUM.out.mono ?_; rintro e w6 ⟨rfl, hp6, ht6⟩; have S6 := Lib.hid (HSX.out.turn hp6 ht6); obtain ⟨z0, z1, z2, z3, _⟩ := S6.out.q4; clear hp6 ht6)))
            go_ret
            exact ⟨rfl, S8.out.old⟩
end Go.Proofs.Ytgbekdeedahajaa.Pl
