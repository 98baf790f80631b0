/-
  The walk of CaretOpens.
-/
import Derived.Test.YtlcjiffnmpkndaaCaH
namespace Go.Proofs.Ytlcjiffnmpkndaa.Pl
open Go.RowKit Go.Shelf Base
set_option linter.unusedVariables false
set_option linter.unusedSimpArgs false

theorem tmod_neg (a n : Int) : (-a).tmod n = -(a.tmod n) := Int.neg_tmod ..
theorem move_back {n r c x a e : Int} (h0 : 0 ≤ x) (h1 : x < n) : ctMoveL n r c (ctMoveL n r c x a e) (-a) (-e) = x := by
  have hn : 0 < n := by omega
  unfold ctMoveL
  rw [tmod_neg]
  have hd : -(a.tmod r) * c = -(a.tmod r * c) := Int.neg_mul _ _
  rw [hd]
  generalize a.tmod r * c = d
  rw [mv_pos hn, mv_pos hn, mv_pos hn, mv_pos hn]
  rw [Int.emod_add_emod, Int.emod_add_emod, Int.add_assoc ((x + d + e) % n), Int.emod_add_emod, show x + d + e + (-d + -e) = x by omega]
  exact Int.emod_eq_of_lt h0 h1
/-- The planes of a law, and the document's in its box. -/
structure CoB (w : World) (b g : Nat) (r c cur : Int) (L : List Cl) (gx n s : Nat) (x : Int) (W : World) : Prop where
  co : CoQ w b g r c cur L gx n W
  bx : W.heap[s]? = some (.cells #[.int .i64 r, .int .i64 c, .slice (some ⟨gx, 0, none⟩) n n, .int .i64 x] 29 (0, 0))
  sb : s ≠ b
theorem CoB.go {w W W' : World} {b g : Nat} {r c cur z x : Int} {L : List Cl} {gx n s : Nat} (h : CoB w b g r c cur L gx n s x W) (hp : PlAt W' b g r c z L) (t : Turn (At b) W W') : CoB w b g r c z L gx n s x W' :=
  ⟨h.co.go hp t, (t.block s (lt_of_block h.bx) h.sb).trans h.bx, h.sb⟩
theorem CoB.below {w W W' : World} {b g : Nat} {r c cur x : Int} {L : List Cl} {gx n s : Nat} (h : CoB w b g r c cur L gx n s x W) (t : Below W.heap.size W W') : CoB w b g r c cur L gx n s x W' :=
  ⟨h.co.below t, (t.block s (lt_of_block h.bx)).trans h.bx, h.sb⟩
/-- What is asked of a place that is come to. -/
theorem fits_tab {L : List Cl} {x : Int} (h0 : 0 ≤ x) (h1 : x < L.length) : (opsL L ≠ [] → opnL L (tabL L x) = true) ∧ (opsL L = [] → tabL L x = 0) := by
  refine ⟨fun h => ?_, fun h => tab_none h x h0 h1⟩
  obtain ⟨j, y, h2, h3⟩ := tab_some h h0 h1
  rw [h3]; exact opn_get h2
theorem fits_back {L : List Cl} {x : Int} (hn : 1 ≤ L.length) : (opsL L ≠ [] → opnL L (backC L x) = true) ∧ (opsL L = [] → backC L x = 0) :=
  ⟨fun h => back_some h hn, fun h => back_none h x hn⟩
theorem fits_home {L : List Cl} : (opsL L ≠ [] → opnL L (homeL L) = true) ∧ (opsL L = [] → homeL L = 0) := by
  rw [home_ops]
  unfold headN
  constructor
  · intro h
    cases ho : opsL L with
    | nil => exact absurd ho h
    | cons o os => exact opn_first (mem_ops.1 (by rw [ho]; simp)).2
  · intro h; rw [h]; rfl
theorem fits_nl {L : List Cl} {c x : Int} (hn : 1 ≤ L.length) : (opsL L ≠ [] → opnL L (nlL L c x) = true) ∧ (opsL L = [] → befL L 0 ≠ -1 → nlL L c x = 0) := by
  have hb := mv_bd (n := L.length) (a := x) (b := c - x.tmod c) (by omega)
  unfold nlL nlF
  constructor
  · intro h
    split
    · next h1 => exact h1
    · exact (fits_tab hb.1 hb.2).1 h
  · intro h hf
    split
    · next h1 =>
      have hne : allL L ≠ [] := fun e => hf ((bef_none (by omega) (by omega)).2 e)
      exact absurd h (opn_ops h1 hne)
    · exact (fits_tab hb.1 hb.2).2 h
set_option maxRecDepth 100000 in
set_option maxHeartbeats 16000000 in
theorem caretOpens_law {w : World} (r c : Int) {p1 p2 p3 p4 p5 : Prop} (_ : p1) (_ : p2) (v0 : Value) (L0 : List Cl) (hL : ClsAt w v0 L0 ∧ L0.length ≤ maxLen ∧ ∀ x ∈ L0, x.Ok) (a : Int) (_ : p3) (rw_ : Int) (_ : p4) (cw_ : Int) (_ : p5) :
    Calls Try.prog 5 #[.agg #[.int .i64 r, .int .i64 c], v0, .int .i64 a, .int .i64 rw_, .int .i64 cw_] w fun e W => e = .returned (.bool true) ∧ Below w.heap.size w W := by
  obtain ⟨hv, hm, hok⟩ := hL
  obtain ⟨a0, cap0, hv0, _⟩ := id hv
  subst hv0
  obtain ⟨m0, hm0⟩ : ∃ m0, m0 = L0.length := ⟨_, rfl⟩
  have HV := Lib.hid hv
  have HM := Lib.hid hm
  have HOK := Lib.hid hok
  rw [← hm0] at HV hm ⊢
  have HM0 := Lib.hid hm0
  obtain ⟨W0, hW0⟩ : ∃ W0, W0 = w.alloc (.cells #[.int .i64 r, .int .i64 c] 23) := ⟨_, rfl⟩
  have hn0 : W0.heap[w.heap.size]? = some (.cells #[.int .i64 r, .int .i64 c] 23 (0, 0)) := by rw [hW0]; exact heap_alloc_new w _
  have HN0 := Lib.hid hn0
  have B0 := Lib.hid (show Below w.heap.size w W0 by rw [hW0]; exact below_alloc w _)
  have HW0 := Lib.hid hW0.symm
  clear hv hok hm0 hW0 hn0 hm
  go_enter Try.func5, Try.ntmps5
  go_wp2_with fail
  rw [HW0.out]
  go_wp2_with (go_at_call 18; (with_reducible refine (ca_alive W0).mono ?_); rintro e w1 ⟨rfl, hb1⟩
               have n1 := (hb1.block _ (lt_of_block HN0.out)).trans HN0.out
               have q0 : w1.cell? ⟨w.heap.size, 0, none⟩ = some (.int .i64 r) := by simp [World.cell?, n1]
               have q1 : w1.cell? ⟨w.heap.size, 1, none⟩ = some (.int .i64 c) := by simp [World.cell?, n1]
               have B1 := Lib.hid (B0.out.trans (hb1.mono B0.out.size)); clear hb1 n1)
  go_at_call 19
  refine (made_any r c (.slice a0 m0 cap0) L0 a w1 (HV.out.below (B1.out.mono (Nat.le_refl _))) HM.out).mono ?_
  rintro e w2 (⟨hno, pv, r', c', a', l', k', rfl, hb2⟩ | ⟨b, g, gx, n, hcn, hn1, hn2, rfl, hpl, hrow, hb, hg, hgx, hgb, hgg, hb2⟩)
  · unfold xV
    go_wp2_with fail
    go_ret
    exact ⟨rfl, B1.out.trans ((hb2.mono B1.out.size).alloc (by have := B1.out.size; have := hb2.size; omega) _)⟩
  unfold xV
  obtain ⟨L, hL⟩ : ∃ L, L = mL n L0 L0.length := ⟨_, rfl⟩
  rw [← hL] at hpl hrow
  have hlen : L.length = n := by rw [hL, mL_length]
  have hbo : BoL L := bo_ca (fun x hx => by rw [hL] at hx; exact (mL_ok n HOK.out _ x hx).1)
  obtain ⟨x, hx⟩ : ∃ x, x = a % 256 % (n : Int) := ⟨_, rfl⟩
  have hxb : 0 ≤ x ∧ x < (n : Int) := by rw [hx]; exact ⟨Int.emod_nonneg _ (by omega), Int.emod_lt_of_pos _ (by omega)⟩
  rw [← hx] at hpl ⊢
  have hs1 := B1.out.size
  have hba := below_alloc w2 (.cells #[.int .i64 r, .int .i64 c, .slice (some ⟨gx, 0, none⟩) n n, .int .i64 x] 29)
  have cb := heap_alloc_new w2 (.cells #[.int .i64 r, .int .i64 c, .slice (some ⟨gx, 0, none⟩) n n, .int .i64 x] 29)
  have hco : CoQ w b g r c x L gx n (w2.alloc (.cells #[.int .i64 r, .int .i64 c, .slice (some ⟨gx, 0, none⟩) n n, .int .i64 x] 29)) :=
    ⟨hpl.below hba, ⟨own_below hrow hba, hlen, by omega⟩, by omega, by omega, ⟨by omega, by omega⟩, (B1.out.trans (hb2.mono hs1)).alloc (by have := hb2.size; omega) _⟩
  have HC := Lib.hid hco
  have HCB := Lib.hid cb
  have HBO := Lib.hid hbo
  have HLN := Lib.hid hlen
  have HX := Lib.hid hx
  have HCE := Lib.hid hcn
  clear hpl hrow hb2 hL hcn q0 q1 hb hg hgx hgb hgg hlen hbo hs1 hba hco cb hx
  go_upto_region 6 with fail
  obtain ⟨w3, hw3⟩ : ∃ w3, w3 = w2.alloc (.cells #[.int .i64 r, .int .i64 c, .slice (some ⟨gx, 0, none⟩) n n, .int .i64 x] 29) := ⟨_, rfl⟩
  rw [← hw3] at HC HCB ⊢
  obtain ⟨s, hs⟩ : ∃ s, s = w2.heap.size := ⟨_, rfl⟩
  rw [← hs] at HCB ⊢
  clear hw3 hs
  obtain ⟨s0, s1, s2, s3, sf⟩ := blk4 HCB.out
  have hn5 : (1 : Int) ≤ (n : Int) := by omega
  have hn6 : (n : Int) ≤ 60 := by omega
  obtain ⟨j1, hand1, hj1b⟩ : ∃ j1 : Int, bits .and .i64 rw_ 255 = j1 ∧ 0 ≤ j1 ∧ j1 < 256 := by
    obtain ⟨k, h1, h2, _⟩ := Go.Proofs.Ytlcjiffnmpkndaa.Mask.mask_nat rw_ 255 8 256 (by omega) (by decide) (by decide)
    exact ⟨k, h1, by omega, by omega⟩
  obtain ⟨j2, hand2, hj2b⟩ : ∃ j2 : Int, bits .and .i64 cw_ 255 = j2 ∧ 0 ≤ j2 ∧ j2 < 256 := by
    obtain ⟨k, h1, h2, _⟩ := Go.Proofs.Ytlcjiffnmpkndaa.Mask.mask_nat cw_ 255 8 256 (by omega) (by decide) (by decide)
    exact ⟨k, h1, by omega, by omega⟩
  have hn7 : IntKind.i64.wrap (-j1) = -j1 := IntWalk.i64_in _ (by omega)
  have hn8 : IntKind.i64.wrap (-j2) = -j2 := IntWalk.i64_in _ (by omega)
  have hln : (L.length : Int) = n := by rw [HLN.out]
  have hlen1 : 1 ≤ L.length := by rw [HLN.out]; exact hn1
  have HMB := Lib.hid (show ctMoveL L.length r c (ctMoveL n r c x j1 j2) (-j1) (-j2) = x by rw [hln]; exact move_back hxb.1 hxb.2)
  have hbk : CoB w b g r c x L gx n s x w3 := ⟨HC.out, HCB.out, fun e => by
    have h1 := HC.out.rx.lt
    have h2 := HC.out.pl
    obtain ⟨⟨cap, h3, _⟩, _⟩ := h2
    have h4 := HCB.out
    rw [e, h3] at h4
    exact absurd (by injection (Option.some.inj h4)) (show (106 : TypeId) ≠ 29 by decide)⟩
  have HK := Lib.hid hbk
  obtain ⟨m, hmm⟩ : ∃ m, m = (opsL L).length := ⟨_, rfl⟩
  have HMM := Lib.hid hmm
  obtain ⟨fm, hfm⟩ : ∃ fm, fm = (befL L 0 != -1) := ⟨_, rfl⟩
  have HFM := Lib.hid hfm
  clear hbk hmm hfm
  go_upto_region 11 with (first
    | (go_at_call 33; (with_reducible refine (cursor_any HC.out.pl).mono ?_); rintro e w4 ⟨rfl, rfl⟩)
    | (go_at_call 27; (with_reducible refine (ctMove_any HK.out.co.pl j1 j2).mono ?_); rintro e w4 ⟨rfl, hp, ht⟩; rw [hln] at hp; have HK4 := Lib.hid (HK.out.go hp ht); clear hp ht)
    | (go_at_call 27; (with_reducible refine (gop_k (ctMove_any HK4.out.co.pl (-j1) (-j2)) HMB.out).mono ?_); rintro e w5 ⟨rfl, hp, ht⟩; have HK5 := Lib.hid (HK4.out.go hp ht); clear hp ht))
  obtain ⟨s0', s1', s2', s3', sf'⟩ := blk4 HK5.out.bx
  have hopn := ropens_any r c x HK5.out.co.rx HBO.out
  rw [← HMM.out] at hopn
  unfold xV at hopn
  have HOPN := Lib.hid hopn
  clear hopn s0 s1 s2 s3 sf
  have hm60 : m ≤ 60 := by
    rw [HMM.out]; unfold opsL
    refine Nat.le_trans (List.length_filter_le _ _) ?_
    have := HLN.out
    simp [runN]; omega
  have hm61 : (m : Int) ≤ 60 := by omega
  have HT0 := Lib.hid (fits_tab (L := L) (x := x) hxb.1 (by rw [hln]; exact hxb.2))
  have HT1 := Lib.hid (fits_back (L := L) (x := x) hlen1)
  have HT2 := Lib.hid (fits_nl (L := L) (c := c) (x := x) hlen1)
  have HT3 := Lib.hid (fits_home (L := L))
  have HE1 : Hid (1 ≤ m → opsL L ≠ []) := Lib.hid (fun h e => by rw [HMM.out, e] at h; simp at h)
  have HE0 : Hid (m = 0 → opsL L = []) := Lib.hid (fun h => List.eq_nil_of_length_eq_zero (by rw [← HMM.out]; exact h))
  have HFE : Hid (fm = true → befL L 0 ≠ -1) := Lib.hid (fun h => by rw [HFM.out] at h; simpa using h)
  have hm0 : m = 0 ∨ 1 ≤ m := by omega
  rcases hm0 with hm0 | hm1
  · have hm2 : (m : Int) = 0 := by omega
    have HM0 := Lib.hid hm0
    clear hm0
    go_upto_region 12 with (first
      | (go_at_call 36; (with_reducible refine HOPN.out.mono ?_); rintro e w6 ⟨ov, rfl, hor, hol, hb6⟩; obtain ⟨oa, ocap, rfl, hoa⟩ := rrow_shape hor; have HC6 := Lib.hid (HK5.out.co.below hb6); clear hor hol hoa hb6))
    go_wp2_with fail
    clear hm2
    go_loopw [52] (fun p wr => ∃ (i : Nat) (z : Int), p = .int .i64 i ∧ i ≤ 4 ∧ CoQ w b g r c z L gx n wr) (fun p _ => 4 - (intOf p).toNat)
    case atStart => exact ⟨0, x, rfl, by omega, HC6.out⟩
    case round =>
      obtain ⟨i, z, rfl, hi, hq⟩ := hrel
      have HQ := Lib.hid hq
      clear hq
      have hi5 : i = 0 ∨ i = 1 ∨ i = 2 ∨ i = 3 ∨ i = 4 := by omega
      rcases hi5 with rfl | rfl | rfl | rfl | rfl
      · skip
        cases fm with
        | false =>
          obtain ⟨y, hy⟩ : ∃ y, y = tabL L x := ⟨_, rfl⟩
          have HYY := Lib.hid hy.symm
          clear hy
          go_wp2_with (first
            | (go_at_call 34; (with_reducible refine (point_k HQ.out.pl x (by simp [hasL, hln]; exact hxb)).mono ?_); rintro e w7 ⟨rfl, hp, ht⟩; have H := Lib.hid (HQ.out.go hp ht); clear hp ht)
            | (go_at_call 28; (with_reducible refine (gop_k (tab_any H.out.pl HBO.out) HYY.out).mono ?_); rintro e w8 ⟨rfl, hp, ht⟩; have H8 := Lib.hid (H.out.go hp ht); clear hp ht)
            | (go_at_call 38; (with_reducible refine (formatted_any H8.out.pl).mono ?_); rintro e w9 ⟨he, hb9⟩; rw [← HFM.out] at he; subst he; have H9 := Lib.hid (H8.out.below hb9); clear hb9))
          go_roundw
          case rel => exact ⟨1, _, by go_num, by omega, H9.out⟩
          case measure => simp [intOf]
        | true =>
          obtain ⟨y, hy⟩ : ∃ y, y = tabL L x := ⟨_, rfl⟩
          have HYY := Lib.hid hy.symm
          have hy0 : y = 0 := by rw [hy]; exact HT0.out.2 (HE0.out HM0.out)
          clear hy
          go_wp2_with (first
            | (go_at_call 34; (with_reducible refine (point_k HQ.out.pl x (by simp [hasL, hln]; exact hxb)).mono ?_); rintro e w7 ⟨rfl, hp, ht⟩; have H := Lib.hid (HQ.out.go hp ht); clear hp ht)
            | (go_at_call 28; (with_reducible refine (gop_k (tab_any H.out.pl HBO.out) HYY.out).mono ?_); rintro e w8 ⟨rfl, hp, ht⟩; have H8 := Lib.hid (H.out.go hp ht); clear hp ht)
            | (go_at_call 38; (with_reducible refine (formatted_any H8.out.pl).mono ?_); rintro e w9 ⟨he, hb9⟩; rw [← HFM.out] at he; subst he; have H9 := Lib.hid (H8.out.below hb9); clear hb9))
          go_roundw
          case rel => exact ⟨1, _, by go_num, by omega, H9.out⟩
          case measure => simp [intOf]
      · skip
        cases fm with
        | false =>
          obtain ⟨y, hy⟩ : ∃ y, y = backC L x := ⟨_, rfl⟩
          have HYY := Lib.hid hy.symm
          clear hy
          go_wp2_with (first
            | (go_at_call 34; (with_reducible refine (point_k HQ.out.pl x (by simp [hasL, hln]; exact hxb)).mono ?_); rintro e w7 ⟨rfl, hp, ht⟩; have H := Lib.hid (HQ.out.go hp ht); clear hp ht)
            | (go_at_call 29; (with_reducible refine (gop_k (back_cany H.out.pl HBO.out) HYY.out).mono ?_); rintro e w8 ⟨rfl, hp, ht⟩; have H8 := Lib.hid (H.out.go hp ht); clear hp ht)
            | (go_at_call 38; (with_reducible refine (formatted_any H8.out.pl).mono ?_); rintro e w9 ⟨he, hb9⟩; rw [← HFM.out] at he; subst he; have H9 := Lib.hid (H8.out.below hb9); clear hb9))
          go_roundw
          case rel => exact ⟨2, _, by go_num, by omega, H9.out⟩
          case measure => simp [intOf]
        | true =>
          obtain ⟨y, hy⟩ : ∃ y, y = backC L x := ⟨_, rfl⟩
          have HYY := Lib.hid hy.symm
          have hy0 : y = 0 := by rw [hy]; exact HT1.out.2 (HE0.out HM0.out)
          clear hy
          go_wp2_with (first
            | (go_at_call 34; (with_reducible refine (point_k HQ.out.pl x (by simp [hasL, hln]; exact hxb)).mono ?_); rintro e w7 ⟨rfl, hp, ht⟩; have H := Lib.hid (HQ.out.go hp ht); clear hp ht)
            | (go_at_call 29; (with_reducible refine (gop_k (back_cany H.out.pl HBO.out) HYY.out).mono ?_); rintro e w8 ⟨rfl, hp, ht⟩; have H8 := Lib.hid (H.out.go hp ht); clear hp ht)
            | (go_at_call 38; (with_reducible refine (formatted_any H8.out.pl).mono ?_); rintro e w9 ⟨he, hb9⟩; rw [← HFM.out] at he; subst he; have H9 := Lib.hid (H8.out.below hb9); clear hb9))
          go_roundw
          case rel => exact ⟨2, _, by go_num, by omega, H9.out⟩
          case measure => simp [intOf]
      · skip
        cases fm with
        | false =>
          obtain ⟨y, hy⟩ : ∃ y, y = nlL L c x := ⟨_, rfl⟩
          have HYY := Lib.hid hy.symm
          clear hy
          go_wp2_with (first
            | (go_at_call 34; (with_reducible refine (point_k HQ.out.pl x (by simp [hasL, hln]; exact hxb)).mono ?_); rintro e w7 ⟨rfl, hp, ht⟩; have H := Lib.hid (HQ.out.go hp ht); clear hp ht)
            | (go_at_call 30; (with_reducible refine (gop_k (newline_any H.out.pl HBO.out (by rw [hln]; exact hxb)) HYY.out).mono ?_); rintro e w8 ⟨rfl, hp, ht⟩; have H8 := Lib.hid (H.out.go hp ht); clear hp ht)
            | (go_at_call 38; (with_reducible refine (formatted_any H8.out.pl).mono ?_); rintro e w9 ⟨he, hb9⟩; rw [← HFM.out] at he; subst he; have H9 := Lib.hid (H8.out.below hb9); clear hb9))
          go_roundw
          case rel => exact ⟨3, _, by go_num, by omega, H9.out⟩
          case measure => simp [intOf]
        | true =>
          obtain ⟨y, hy⟩ : ∃ y, y = nlL L c x := ⟨_, rfl⟩
          have HYY := Lib.hid hy.symm
          have hy0 : y = 0 := by rw [hy]; exact HT2.out.2 (HE0.out HM0.out) (HFE.out rfl)
          clear hy
          go_wp2_with (first
            | (go_at_call 34; (with_reducible refine (point_k HQ.out.pl x (by simp [hasL, hln]; exact hxb)).mono ?_); rintro e w7 ⟨rfl, hp, ht⟩; have H := Lib.hid (HQ.out.go hp ht); clear hp ht)
            | (go_at_call 30; (with_reducible refine (gop_k (newline_any H.out.pl HBO.out (by rw [hln]; exact hxb)) HYY.out).mono ?_); rintro e w8 ⟨rfl, hp, ht⟩; have H8 := Lib.hid (H.out.go hp ht); clear hp ht)
            | (go_at_call 38; (with_reducible refine (formatted_any H8.out.pl).mono ?_); rintro e w9 ⟨he, hb9⟩; rw [← HFM.out] at he; subst he; have H9 := Lib.hid (H8.out.below hb9); clear hb9))
          go_roundw
          case rel => exact ⟨3, _, by go_num, by omega, H9.out⟩
          case measure => simp [intOf]
      · skip
        cases fm with
        | false =>
          obtain ⟨y, hy⟩ : ∃ y, y = homeL L := ⟨_, rfl⟩
          have HYY := Lib.hid hy.symm
          clear hy
          go_wp2_with (first
            | (go_at_call 34; (with_reducible refine (point_k HQ.out.pl x (by simp [hasL, hln]; exact hxb)).mono ?_); rintro e w7 ⟨rfl, hp, ht⟩; have H := Lib.hid (HQ.out.go hp ht); clear hp ht)
            | (go_at_call 31; (with_reducible refine (gop_k (ctHome_any H.out.pl HBO.out) HYY.out).mono ?_); rintro e w8 ⟨rfl, hp, ht⟩; have H8 := Lib.hid (H.out.go hp ht); clear hp ht)
            | (go_at_call 38; (with_reducible refine (formatted_any H8.out.pl).mono ?_); rintro e w9 ⟨he, hb9⟩; rw [← HFM.out] at he; subst he; have H9 := Lib.hid (H8.out.below hb9); clear hb9))
          go_roundw
          case rel => exact ⟨4, _, by go_num, by omega, H9.out⟩
          case measure => simp [intOf]
        | true =>
          obtain ⟨y, hy⟩ : ∃ y, y = homeL L := ⟨_, rfl⟩
          have HYY := Lib.hid hy.symm
          have hy0 : y = 0 := by rw [hy]; exact HT3.out.2 (HE0.out HM0.out)
          clear hy
          go_wp2_with (first
            | (go_at_call 34; (with_reducible refine (point_k HQ.out.pl x (by simp [hasL, hln]; exact hxb)).mono ?_); rintro e w7 ⟨rfl, hp, ht⟩; have H := Lib.hid (HQ.out.go hp ht); clear hp ht)
            | (go_at_call 31; (with_reducible refine (gop_k (ctHome_any H.out.pl HBO.out) HYY.out).mono ?_); rintro e w8 ⟨rfl, hp, ht⟩; have H8 := Lib.hid (H.out.go hp ht); clear hp ht)
            | (go_at_call 38; (with_reducible refine (formatted_any H8.out.pl).mono ?_); rintro e w9 ⟨he, hb9⟩; rw [← HFM.out] at he; subst he; have H9 := Lib.hid (H8.out.below hb9); clear hb9))
          go_roundw
          case rel => exact ⟨4, _, by go_num, by omega, H9.out⟩
          case measure => simp [intOf]
      · go_wp2
        go_ret
        exact ⟨rfl, HQ.out.old⟩
  · have hm3 : (0 : Int) < (m : Int) := by omega
    have hd1 : decide ((0 : Int) < (m : Int)) = true := decide_eq_true hm3
    have hd2 : decide (0 < m) = true := decide_eq_true hm1
    have HM1 := Lib.hid hm1
    clear hm1
    go_upto_region 12 with (first
      | (go_at_call 36; (with_reducible refine HOPN.out.mono ?_); rintro e w6 ⟨ov, rfl, hor, hol, hb6⟩; obtain ⟨oa, ocap, rfl, hoa⟩ := rrow_shape hor; have HC6 := Lib.hid (HK5.out.co.below hb6); clear hor hol hoa hb6))
    go_wp2_with fail
    go_loopw [52] (fun p wr => ∃ (i : Nat) (z : Int), p = .int .i64 i ∧ i ≤ 4 ∧ CoQ w b g r c z L gx n wr) (fun p _ => 4 - (intOf p).toNat)
    case atStart => exact ⟨0, x, rfl, by omega, HC6.out⟩
    case round =>
      obtain ⟨i, z, rfl, hi, hq⟩ := hrel
      have HQ := Lib.hid hq
      clear hq
      have hi5 : i = 0 ∨ i = 1 ∨ i = 2 ∨ i = 3 ∨ i = 4 := by omega
      rcases hi5 with rfl | rfl | rfl | rfl | rfl
      · skip
        obtain ⟨y, hy⟩ : ∃ y, y = tabL L x := ⟨_, rfl⟩
        have HYY := Lib.hid hy.symm
        have HYO := Lib.hid (show opnL L y = true by rw [hy]; exact HT0.out.1 (HE1.out HM1.out))
        clear hy
        go_wp2_with (first
          | (go_at_call 34; (with_reducible refine (point_k HQ.out.pl x (by simp [hasL, hln]; exact hxb)).mono ?_); rintro e w7 ⟨rfl, hp, ht⟩; have H := Lib.hid (HQ.out.go hp ht); clear hp ht)
          | (go_at_call 28; (with_reducible refine (gop_k (tab_any H.out.pl HBO.out) HYY.out).mono ?_); rintro e w8 ⟨rfl, hp, ht⟩; have H8 := Lib.hid (H.out.go hp ht); clear hp ht)
          | (go_at_call 37; (with_reducible refine (open_any H8.out.pl y HBO.out).mono ?_); rintro e w9 ⟨he, hb9⟩; rw [HYO.out] at he; subst he; have H9 := Lib.hid (H8.out.below hb9); clear hb9))
        go_roundw
        case rel => exact ⟨1, _, by go_num, by omega, H9.out⟩
        case measure => simp [intOf]
      · skip
        obtain ⟨y, hy⟩ : ∃ y, y = backC L x := ⟨_, rfl⟩
        have HYY := Lib.hid hy.symm
        have HYO := Lib.hid (show opnL L y = true by rw [hy]; exact HT1.out.1 (HE1.out HM1.out))
        clear hy
        go_wp2_with (first
          | (go_at_call 34; (with_reducible refine (point_k HQ.out.pl x (by simp [hasL, hln]; exact hxb)).mono ?_); rintro e w7 ⟨rfl, hp, ht⟩; have H := Lib.hid (HQ.out.go hp ht); clear hp ht)
          | (go_at_call 29; (with_reducible refine (gop_k (back_cany H.out.pl HBO.out) HYY.out).mono ?_); rintro e w8 ⟨rfl, hp, ht⟩; have H8 := Lib.hid (H.out.go hp ht); clear hp ht)
          | (go_at_call 37; (with_reducible refine (open_any H8.out.pl y HBO.out).mono ?_); rintro e w9 ⟨he, hb9⟩; rw [HYO.out] at he; subst he; have H9 := Lib.hid (H8.out.below hb9); clear hb9))
        go_roundw
        case rel => exact ⟨2, _, by go_num, by omega, H9.out⟩
        case measure => simp [intOf]
      · skip
        obtain ⟨y, hy⟩ : ∃ y, y = nlL L c x := ⟨_, rfl⟩
        have HYY := Lib.hid hy.symm
        have HYO := Lib.hid (show opnL L y = true by rw [hy]; exact HT2.out.1 (HE1.out HM1.out))
        clear hy
        go_wp2_with (first
          | (go_at_call 34; (with_reducible refine (point_k HQ.out.pl x (by simp [hasL, hln]; exact hxb)).mono ?_); rintro e w7 ⟨rfl, hp, ht⟩; have H := Lib.hid (HQ.out.go hp ht); clear hp ht)
          | (go_at_call 30; (with_reducible refine (gop_k (newline_any H.out.pl HBO.out (by rw [hln]; exact hxb)) HYY.out).mono ?_); rintro e w8 ⟨rfl, hp, ht⟩; have H8 := Lib.hid (H.out.go hp ht); clear hp ht)
          | (go_at_call 37; (with_reducible refine (open_any H8.out.pl y HBO.out).mono ?_); rintro e w9 ⟨he, hb9⟩; rw [HYO.out] at he; subst he; have H9 := Lib.hid (H8.out.below hb9); clear hb9))
        go_roundw
        case rel => exact ⟨3, _, by go_num, by omega, H9.out⟩
        case measure => simp [intOf]
      · skip
        obtain ⟨y, hy⟩ : ∃ y, y = homeL L := ⟨_, rfl⟩
        have HYY := Lib.hid hy.symm
        have HYO := Lib.hid (show opnL L y = true by rw [hy]; exact HT3.out.1 (HE1.out HM1.out))
        clear hy
        go_wp2_with (first
          | (go_at_call 34; (with_reducible refine (point_k HQ.out.pl x (by simp [hasL, hln]; exact hxb)).mono ?_); rintro e w7 ⟨rfl, hp, ht⟩; have H := Lib.hid (HQ.out.go hp ht); clear hp ht)
          | (go_at_call 31; (with_reducible refine (gop_k (ctHome_any H.out.pl HBO.out) HYY.out).mono ?_); rintro e w8 ⟨rfl, hp, ht⟩; have H8 := Lib.hid (H.out.go hp ht); clear hp ht)
          | (go_at_call 37; (with_reducible refine (open_any H8.out.pl y HBO.out).mono ?_); rintro e w9 ⟨he, hb9⟩; rw [HYO.out] at he; subst he; have H9 := Lib.hid (H8.out.below hb9); clear hb9))
        go_roundw
        case rel => exact ⟨4, _, by go_num, by omega, H9.out⟩
        case measure => simp [intOf]
      · go_wp2
        go_ret
        exact ⟨rfl, HQ.out.old⟩
end Go.Proofs.Ytlcjiffnmpkndaa.Pl
