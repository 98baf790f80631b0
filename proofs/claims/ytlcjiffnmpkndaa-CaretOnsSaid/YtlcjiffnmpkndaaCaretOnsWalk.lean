/-
  The walk of CaretOns.
-/
import Derived.Test.YtlcjiffnmpkndaaCaH
namespace Go.Proofs.Ytlcjiffnmpkndaa.Pl
open Go.RowKit Go.Shelf Base
set_option linter.unusedVariables false
set_option linter.unusedSimpArgs false

set_option maxRecDepth 100000 in
set_option maxHeartbeats 16000000 in
theorem caretOns_law {w : World} (r c : Int) {p1 p2 p3 : Prop} (_ : p1) (_ : p2) (v0 : Value) (L0 : List Cl) (hL : ClsAt w v0 L0 ∧ L0.length ≤ maxLen ∧ ∀ x ∈ L0, x.Ok) (a : Int) (_ : p3) :
    Calls Try.prog 7 #[.agg #[.int .i64 r, .int .i64 c], v0, .int .i64 a] w fun e W => e = .returned (.bool true) ∧ Below w.heap.size w W := by
  obtain ⟨hv, hm, hok⟩ := hL
  obtain ⟨a0, cap0, hv0, _⟩ := id hv
  subst hv0
  obtain ⟨m0, hm0⟩ : ∃ m0, m0 = L0.length := ⟨_, rfl⟩
  have HV := Lib.hid hv
  have HM := Lib.hid hm
  have HOK := Lib.hid hok
  rw [← hm0] at HV hm ⊢
  have HM0 := Lib.hid hm0
  obtain ⟨W0, hW0⟩ : ∃ W0, W0 = w.alloc (.cells #[.int .i64 r, .int .i64 c] 23) := ⟨_, rfl⟩
  have hn0 : W0.heap[w.heap.size]? = some (.cells #[.int .i64 r, .int .i64 c] 23 (0, 0)) := by rw [hW0]; exact heap_alloc_new w _
  have HN0 := Lib.hid hn0
  have B0 := Lib.hid (show Below w.heap.size w W0 by rw [hW0]; exact below_alloc w _)
  have HW0 := Lib.hid hW0.symm
  clear hv hok hm0 hW0 hn0 hm
  go_enter Try.func7, Try.ntmps7
  go_wp2_with fail
  rw [HW0.out]
  go_wp2_with (go_at_call 18; (with_reducible refine (ca_alive W0).mono ?_); rintro e w1 ⟨rfl, hb1⟩
               have n1 := (hb1.block _ (lt_of_block HN0.out)).trans HN0.out
               have q0 : w1.cell? ⟨w.heap.size, 0, none⟩ = some (.int .i64 r) := by simp [World.cell?, n1]
               have q1 : w1.cell? ⟨w.heap.size, 1, none⟩ = some (.int .i64 c) := by simp [World.cell?, n1]
               have B1 := Lib.hid (B0.out.trans (hb1.mono B0.out.size)); clear hb1 n1)
  go_at_call 19
  refine (made_any r c (.slice a0 m0 cap0) L0 a w1 (HV.out.below (B1.out.mono (Nat.le_refl _))) HM.out).mono ?_
  rintro e w2 (⟨hno, pv, r', c', a', l', k', rfl, hb2⟩ | ⟨b, g, gx, n, hcn, hn1, hn2, rfl, hpl, hrow, hb, hg, hgx, hgb, hgg, hb2⟩)
  · unfold xV
    go_wp2_with fail
    go_ret
    exact ⟨rfl, B1.out.trans ((hb2.mono B1.out.size).alloc (by have := B1.out.size; have := hb2.size; omega) _)⟩
  unfold xV
  obtain ⟨L, hL⟩ : ∃ L, L = mL n L0 L0.length := ⟨_, rfl⟩
  rw [← hL] at hpl hrow
  have hlen : L.length = n := by rw [hL, mL_length]
  have hbo : BoL L := bo_ca (fun x hx => by rw [hL] at hx; exact (mL_ok n HOK.out _ x hx).1)
  obtain ⟨x, hx⟩ : ∃ x, x = a % 256 % (n : Int) := ⟨_, rfl⟩
  have hxb : 0 ≤ x ∧ x < (n : Int) := by rw [hx]; exact ⟨Int.emod_nonneg _ (by omega), Int.emod_lt_of_pos _ (by omega)⟩
  rw [← hx] at hpl ⊢
  have hs1 := B1.out.size
  have hba := below_alloc w2 (.cells #[.int .i64 r, .int .i64 c, .slice (some ⟨gx, 0, none⟩) n n, .int .i64 x] 29)
  have cb := heap_alloc_new w2 (.cells #[.int .i64 r, .int .i64 c, .slice (some ⟨gx, 0, none⟩) n n, .int .i64 x] 29)
  have hco : CoQ w b g r c x L gx n (w2.alloc (.cells #[.int .i64 r, .int .i64 c, .slice (some ⟨gx, 0, none⟩) n n, .int .i64 x] 29)) :=
    ⟨hpl.below hba, ⟨own_below hrow hba, hlen, by omega⟩, by omega, by omega, ⟨by omega, by omega⟩, (B1.out.trans (hb2.mono hs1)).alloc (by have := hb2.size; omega) _⟩
  have HC := Lib.hid hco
  have HCB := Lib.hid cb
  have HBO := Lib.hid hbo
  have HLN := Lib.hid hlen
  have HX := Lib.hid hx
  have HCE := Lib.hid hcn
  clear hpl hrow hb2 hL hcn q0 q1 hb hg hgx hgb hgg hlen hbo hs1 hba hco cb hx
  go_upto_region 6 with fail
  obtain ⟨w3, hw3⟩ : ∃ w3, w3 = w2.alloc (.cells #[.int .i64 r, .int .i64 c, .slice (some ⟨gx, 0, none⟩) n n, .int .i64 x] 29) := ⟨_, rfl⟩
  rw [← hw3] at HC HCB ⊢
  obtain ⟨s, hs⟩ : ∃ s, s = w2.heap.size := ⟨_, rfl⟩
  rw [← hs] at HCB ⊢
  clear hw3 hs
  obtain ⟨s0, s1, s2, s3, sf⟩ := blk4 HCB.out
  have hn5 : (1 : Int) ≤ (n : Int) := by omega
  have hn6 : (n : Int) ≤ 60 := by omega
  obtain ⟨m, hmm⟩ : ∃ m, m = (opsL L).length := ⟨_, rfl⟩
  have HMM := Lib.hid hmm
  have hopn := ropens_any r c x HC.out.rx HBO.out
  rw [← hmm] at hopn
  have hm60 : m ≤ 60 := by
    rw [hmm]; unfold opsL
    refine Nat.le_trans (List.length_filter_le _ _) ?_
    have := HLN.out
    simp [runN]; omega
  have hm61 : (m : Int) ≤ 60 := by omega
  have HOPN := Lib.hid hopn
  unfold xV at HOPN
  clear hmm hopn
  -- the place behind it, and the one behind that
  obtain ⟨a1, ha1⟩ : ∃ a1, a1 = mv n x 1 := ⟨_, rfl⟩
  obtain ⟨a2, ha2⟩ : ∃ a2, a2 = mv n a1 1 := ⟨_, rfl⟩
  have hb1 := mv_bd (n := n) (a := x) (b := 1) hn5
  have hb2 := mv_bd (n := n) (a := a1) (b := 1) hn5
  rw [← ha1] at hb1
  rw [← ha2] at hb2
  have e1 : (x + 1).tmod (n : Int) = a1 := by rw [Int.tmod_eq_emod_of_nonneg (by omega), ha1, mv_pos (by omega)]
  have e2 : (x + 2).tmod (n : Int) = a2 := by rw [Int.tmod_eq_emod_of_nonneg (by omega), ha2, ha1, mv_pos (by omega), mv_pos (by omega), Int.emod_add_emod]; congr 1; omega
  obtain ⟨⟨yb, yg, ys, yl, yc⟩, hy⟩ : ∃ y, y = atL L a1 := ⟨_, rfl⟩
  have hby := HBO.out a1
  rw [← hy] at hby
  simp only at hby
  obtain ⟨t, ht⟩ : ∃ t, t = tabL L a1 := ⟨_, rfl⟩
  obtain ⟨p, hp⟩ : ∃ p, p = (Attr.prot yb && Attr.nume yb) := ⟨_, rfl⟩
  have hnd := ca_and yb hby.1 hby.2
  rw [← hp] at hnd
  have hln : (L.length : Int) = n := by rw [HLN.out]
  have hon : onL L x = if ys = true then (if p = true then t else a2) else a1 := by unfold onL; rw [hln, ← ha1, ← ha2, ← hy, ← ht, ← hp]
  have HON := Lib.hid hon
  have HY := Lib.hid hy
  have HT := Lib.hid ht
  have HA1 := Lib.hid ha1
  have htb := tab_bd (L := L) (a := a1) (by rw [HLN.out]; exact hn1)
  rw [← ht, hln] at htb
  -- the end
  obtain ⟨z0, hz0⟩ : ∃ z0, z0 = homeL L := ⟨_, rfl⟩
  have hz0b := home_bd (L := L) (by rw [HLN.out]; exact hn1)
  rw [← hz0, hln] at hz0b
  obtain ⟨zl, hzl⟩ : ∃ zl, zl = backC L z0 := ⟨_, rfl⟩
  have HZ0 := Lib.hid hz0
  have HZL := Lib.hid hzl
  have hend : 1 ≤ m → ∃ (o0 ol : Int), (opsL L)[0]? = some o0 ∧ (opsL L)[m - 1]? = some ol ∧ (0 ≤ o0 ∧ o0 < n) ∧ (0 ≤ ol ∧ ol < n) ∧ z0 = mv n o0 1 ∧ zl = mv n ol 1 := by
    intro h
    rw [HMM.out] at h ⊢
    obtain ⟨o0, h0⟩ : ∃ o0, (opsL L)[0]? = some o0 := ⟨_, List.getElem?_eq_getElem (by omega)⟩
    obtain ⟨ol, hl⟩ : ∃ ol, (opsL L)[(opsL L).length - 1]? = some ol := ⟨_, List.getElem?_eq_getElem (by omega)⟩
    have hz : z0 = mv n o0 1 := by rw [hz0, home_ops]; unfold headN; rw [List.head?_eq_getElem?, h0, hln]
    refine ⟨o0, ol, h0, hl, ?_, ?_, hz, ?_⟩
    · have := ops_bd o0 (List.mem_of_getElem? h0); omega
    · have := ops_bd ol (List.mem_of_getElem? hl); omega
    · rw [hzl, hz, ← hln]; exact back_step h0 (by rw [Nat.zero_add, Nat.mod_eq_of_lt (by omega)]; exact hl)
  have hct : 1 ≤ m → opnL L t = true := by
    intro h
    obtain ⟨j, y, h1, h2⟩ := tab_some (L := L) (fun e => by rw [HMM.out, e] at h; simp at h) hb1.1 (by rw [hln]; exact hb1.2)
    rw [ht, h2]; exact opn_get h1
  have HCT := Lib.hid hct
  have HEND := Lib.hid hend
  clear hy ht hp ha1 ha2 hon hz0 hzl hct hend
  have RO4 : ∀ {ov : Value} {w4 w3 : World}, w4.ownsRow 0 3 1 ov m (intsV (opsL L)) → (∀ j, ov.ownBlock = some j → w3.heap.size ≤ j) → CoQ w b g r c x L gx n w3 → RoQ b g ov m (intsV (opsL L)) w4 :=
    fun h1 h2 h3 => ⟨h1, fun j hj => by have := h2 j hj; have := h3.pl.lt; have := h3.pl.ltg; omega⟩
  have hm0 : m = 0 ∨ 1 ≤ m := by omega
  rcases hm0 with hm0 | hm1
  · skip
    cases ys with
    | false =>
      have HGOT := Lib.hid (show onL L x = a1 by rw [HON.out]; simp)
      have hm2 : (m : Int) = 0 := by omega
      go_wp2_with (first
        | (go_at_call 36; (with_reducible refine HOPN.out.mono ?_); rintro e w4 ⟨ov, rfl, hor, hol, hb4⟩; obtain ⟨oa, ocap, rfl, hoa⟩ := rrow_shape hor; have HR4 := Lib.hid (RO4 hor hol HC.out); have HC4 := Lib.hid (HC.out.below hb4); have HOA := Lib.hid hoa; clear hor hol hoa hb4)
        | (go_at_call 33; (with_reducible refine (cursor_any HC4.out.pl).mono ?_); rintro e w5 ⟨rfl, rfl⟩)
        | (go_at_call 39; (with_reducible refine (len_any HC4.out.pl).mono ?_); rw [hln]; rintro e w5 ⟨rfl, rfl⟩)
        | (go_at_call 32; (with_reducible refine (gop_k (on_any HC4.out.pl HBO.out) HGOT.out).mono ?_); rintro e w6 ⟨rfl, hp, ht⟩; have HC6 := Lib.hid (HC4.out.go hp ht); have HR6 := Lib.hid (HR4.out.go ht); clear hp ht)
        | (go_at_call 40; (with_reducible refine (at_any HC6.out.pl a1).mono ?_); rintro e w7 ⟨he, hb7⟩; rw [← HY.out] at he; simp only [Cl.val] at he; subst he; have HC7 := Lib.hid ((HC6.out.below hb7).below (below_alloc w7 (.cells #[.int .u8 yb, .bool yg, .bool false, .int .u8 yl, .int .u8 yc] 58))); have HR7 := Lib.hid ((HR6.out.below hb7).below (below_alloc w7 (.cells #[.int .u8 yb, .bool yg, .bool false, .int .u8 yl, .int .u8 yc] 58))); have c7 := heap_alloc_new w7 (.cells #[.int .u8 yb, .bool yg, .bool false, .int .u8 yl, .int .u8 yc] 58); clear hb7))
      obtain ⟨w8, hw8⟩ : ∃ w8, w8 = w7.alloc (.cells #[.int .u8 yb, .bool yg, .bool false, .int .u8 yl, .int .u8 yc] 58) := ⟨_, rfl⟩
      rw [← hw8] at HC7 HR7 c7 ⊢
      have d0 : w8.cell? ⟨w7.heap.size, 0, none⟩ = some (.int .u8 yb) := by simp [World.cell?, c7]
      have d2 : w8.cell? ⟨w7.heap.size, 2, none⟩ = some (.bool false) := by simp [World.cell?, c7]
      have HW8 := Lib.hid hw8.symm
      clear hw8 c7
      go_wp2_with (first
        | (go_at_call 37; (with_reducible refine (open_any HC7.out.pl t HBO.out).mono ?_); rintro e w9 ⟨he, hb9⟩; rw [HCT.out (by omega)] at he; subst he; have HC9 := Lib.hid (HC7.out.below hb9); have HR9 := Lib.hid (HR7.out.below hb9); clear hb9))
      go_ret
      exact ⟨rfl, HC7.out.old⟩
    | true =>
      cases p with
      | true =>
        have HGOT := Lib.hid (show onL L x = t by rw [HON.out]; simp)
        have hm2 : (m : Int) = 0 := by omega
        go_wp2_with (first
          | (go_at_call 36; (with_reducible refine HOPN.out.mono ?_); rintro e w4 ⟨ov, rfl, hor, hol, hb4⟩; obtain ⟨oa, ocap, rfl, hoa⟩ := rrow_shape hor; have HR4 := Lib.hid (RO4 hor hol HC.out); have HC4 := Lib.hid (HC.out.below hb4); have HOA := Lib.hid hoa; clear hor hol hoa hb4)
          | (go_at_call 33; (with_reducible refine (cursor_any HC4.out.pl).mono ?_); rintro e w5 ⟨rfl, rfl⟩)
          | (go_at_call 39; (with_reducible refine (len_any HC4.out.pl).mono ?_); rw [hln]; rintro e w5 ⟨rfl, rfl⟩)
          | (go_at_call 32; (with_reducible refine (gop_k (on_any HC4.out.pl HBO.out) HGOT.out).mono ?_); rintro e w6 ⟨rfl, hp, ht⟩; have HC6 := Lib.hid (HC4.out.go hp ht); have HR6 := Lib.hid (HR4.out.go ht); clear hp ht)
          | (go_at_call 40; (with_reducible refine (at_any HC6.out.pl a1).mono ?_); rintro e w7 ⟨he, hb7⟩; rw [← HY.out] at he; simp only [Cl.val] at he; subst he; have HC7 := Lib.hid ((HC6.out.below hb7).below (below_alloc w7 (.cells #[.int .u8 yb, .bool yg, .bool true, .int .u8 yl, .int .u8 yc] 58))); have HR7 := Lib.hid ((HR6.out.below hb7).below (below_alloc w7 (.cells #[.int .u8 yb, .bool yg, .bool true, .int .u8 yl, .int .u8 yc] 58))); have c7 := heap_alloc_new w7 (.cells #[.int .u8 yb, .bool yg, .bool true, .int .u8 yl, .int .u8 yc] 58); clear hb7))
        obtain ⟨w8, hw8⟩ : ∃ w8, w8 = w7.alloc (.cells #[.int .u8 yb, .bool yg, .bool true, .int .u8 yl, .int .u8 yc] 58) := ⟨_, rfl⟩
        rw [← hw8] at HC7 HR7 c7 ⊢
        have d0 : w8.cell? ⟨w7.heap.size, 0, none⟩ = some (.int .u8 yb) := by simp [World.cell?, c7]
        have d2 : w8.cell? ⟨w7.heap.size, 2, none⟩ = some (.bool true) := by simp [World.cell?, c7]
        have HW8 := Lib.hid hw8.symm
        clear hw8 c7
        go_wp2_with (first
          | (go_at_call 37; (with_reducible refine (open_any HC7.out.pl t HBO.out).mono ?_); rintro e w9 ⟨he, hb9⟩; rw [HCT.out (by omega)] at he; subst he; have HC9 := Lib.hid (HC7.out.below hb9); have HR9 := Lib.hid (HR7.out.below hb9); clear hb9))
        go_ret
        exact ⟨rfl, HC7.out.old⟩
      | false =>
        have HGOT := Lib.hid (show onL L x = a2 by rw [HON.out]; simp)
        have hm2 : (m : Int) = 0 := by omega
        go_wp2_with (first
          | (go_at_call 36; (with_reducible refine HOPN.out.mono ?_); rintro e w4 ⟨ov, rfl, hor, hol, hb4⟩; obtain ⟨oa, ocap, rfl, hoa⟩ := rrow_shape hor; have HR4 := Lib.hid (RO4 hor hol HC.out); have HC4 := Lib.hid (HC.out.below hb4); have HOA := Lib.hid hoa; clear hor hol hoa hb4)
          | (go_at_call 33; (with_reducible refine (cursor_any HC4.out.pl).mono ?_); rintro e w5 ⟨rfl, rfl⟩)
          | (go_at_call 39; (with_reducible refine (len_any HC4.out.pl).mono ?_); rw [hln]; rintro e w5 ⟨rfl, rfl⟩)
          | (go_at_call 32; (with_reducible refine (gop_k (on_any HC4.out.pl HBO.out) HGOT.out).mono ?_); rintro e w6 ⟨rfl, hp, ht⟩; have HC6 := Lib.hid (HC4.out.go hp ht); have HR6 := Lib.hid (HR4.out.go ht); clear hp ht)
          | (go_at_call 40; (with_reducible refine (at_any HC6.out.pl a1).mono ?_); rintro e w7 ⟨he, hb7⟩; rw [← HY.out] at he; simp only [Cl.val] at he; subst he; have HC7 := Lib.hid ((HC6.out.below hb7).below (below_alloc w7 (.cells #[.int .u8 yb, .bool yg, .bool true, .int .u8 yl, .int .u8 yc] 58))); have HR7 := Lib.hid ((HR6.out.below hb7).below (below_alloc w7 (.cells #[.int .u8 yb, .bool yg, .bool true, .int .u8 yl, .int .u8 yc] 58))); have c7 := heap_alloc_new w7 (.cells #[.int .u8 yb, .bool yg, .bool true, .int .u8 yl, .int .u8 yc] 58); clear hb7))
        obtain ⟨w8, hw8⟩ : ∃ w8, w8 = w7.alloc (.cells #[.int .u8 yb, .bool yg, .bool true, .int .u8 yl, .int .u8 yc] 58) := ⟨_, rfl⟩
        rw [← hw8] at HC7 HR7 c7 ⊢
        have d0 : w8.cell? ⟨w7.heap.size, 0, none⟩ = some (.int .u8 yb) := by simp [World.cell?, c7]
        have d2 : w8.cell? ⟨w7.heap.size, 2, none⟩ = some (.bool true) := by simp [World.cell?, c7]
        have HW8 := Lib.hid hw8.symm
        clear hw8 c7
        go_wp2_with (first
          | (go_at_call 37; (with_reducible refine (open_any HC7.out.pl t HBO.out).mono ?_); rintro e w9 ⟨he, hb9⟩; rw [HCT.out (by omega)] at he; subst he; have HC9 := Lib.hid (HC7.out.below hb9); have HR9 := Lib.hid (HR7.out.below hb9); clear hb9))
        go_ret
        exact ⟨rfl, HC7.out.old⟩
  · skip
    cases ys with
    | false =>
      have HGOT := Lib.hid (show onL L x = a1 by rw [HON.out]; simp)
      obtain ⟨o0, ol, ho0, hol, hob0, hobl, hz0, hzl⟩ := HEND.out hm1
      have f0 : (o0 + 1).tmod (n : Int) = z0 := by rw [Int.tmod_eq_emod_of_nonneg (by omega), hz0, mv_pos (by omega)]
      have fl : (ol + 1).tmod (n : Int) = zl := by rw [Int.tmod_eq_emod_of_nonneg (by omega), hzl, mv_pos (by omega)]
      have HO0 := Lib.hid (intsV_get ho0)
      have HOL := Lib.hid (intsV_get hol)
      obtain ⟨k, hk⟩ : ∃ k : Nat, m = k + 1 := ⟨m - 1, by omega⟩
      have hk1 : (m : Int) - 1 = (k : Int) := by omega
      have hk2 : m - 1 = k := by omega
      rw [hk2] at HOL
      have hk3 : (0 : Int) ≤ (k : Int) := by omega
      have hk4 : (k : Int) < (m : Int) := by omega
      have hm3 : (0 : Int) < (m : Int) := by omega
      have hm4 : ((m : Int) == 0) = false := by rw [beq_eq_false_iff_ne]; omega
      have HK := Lib.hid hk
      clear ho0 hol hz0 hzl hk hk2
      go_wp2_with (first
        | (go_at_call 36; (with_reducible refine HOPN.out.mono ?_); rintro e w4 ⟨ov, rfl, hor, hol, hb4⟩; obtain ⟨oa, ocap, rfl, hoa⟩ := rrow_shape hor; have HR4 := Lib.hid (RO4 hor hol HC.out); have HC4 := Lib.hid (HC.out.below hb4); have HOA := Lib.hid hoa; clear hor hol hoa hb4)
        | (go_at_call 33; (with_reducible refine (cursor_any HC4.out.pl).mono ?_); rintro e w5 ⟨rfl, rfl⟩)
        | (go_at_call 39; (with_reducible refine (len_any HC4.out.pl).mono ?_); rw [hln]; rintro e w5 ⟨rfl, rfl⟩)
        | (go_at_call 32; (with_reducible refine (gop_k (on_any HC4.out.pl HBO.out) HGOT.out).mono ?_); rintro e w6 ⟨rfl, hp, ht⟩; have HC6 := Lib.hid (HC4.out.go hp ht); have HR6 := Lib.hid (HR4.out.go ht); clear hp ht)
        | (go_at_call 40; (with_reducible refine (at_any HC6.out.pl a1).mono ?_); rintro e w7 ⟨he, hb7⟩; rw [← HY.out] at he; simp only [Cl.val] at he; subst he; have HC7 := Lib.hid ((HC6.out.below hb7).below (below_alloc w7 (.cells #[.int .u8 yb, .bool yg, .bool false, .int .u8 yl, .int .u8 yc] 58))); have HR7 := Lib.hid ((HR6.out.below hb7).below (below_alloc w7 (.cells #[.int .u8 yb, .bool yg, .bool false, .int .u8 yl, .int .u8 yc] 58))); have c7 := heap_alloc_new w7 (.cells #[.int .u8 yb, .bool yg, .bool false, .int .u8 yl, .int .u8 yc] 58); clear hb7))
      obtain ⟨w8, hw8⟩ : ∃ w8, w8 = w7.alloc (.cells #[.int .u8 yb, .bool yg, .bool false, .int .u8 yl, .int .u8 yc] 58) := ⟨_, rfl⟩
      rw [← hw8] at HC7 HR7 c7 ⊢
      have d0 : w8.cell? ⟨w7.heap.size, 0, none⟩ = some (.int .u8 yb) := by simp [World.cell?, c7]
      have d2 : w8.cell? ⟨w7.heap.size, 2, none⟩ = some (.bool false) := by simp [World.cell?, c7]
      have HW8 := Lib.hid hw8.symm
      clear hw8 c7
      go_wp2_with (first
        | (go_at_call 37; (with_reducible refine (open_any HC7.out.pl t HBO.out).mono ?_); rintro e w9 ⟨he, hb9⟩; rw [HCT.out hm1] at he; subst he; have HC9 := Lib.hid (HC7.out.below hb9); have HR9 := Lib.hid (HR7.out.below hb9); clear hb9)
        | (go_at_call 31; (with_reducible refine (gop_k (ctHome_any HC7.out.pl HBO.out) HZ0.out.symm).mono ?_); rintro e wa ⟨rfl, hp, ht⟩; have HCa := Lib.hid (HC7.out.go hp ht); have HRa := Lib.hid (HR7.out.go ht); clear hp ht)
        | (go_at_call 29; (with_reducible refine (gop_k (back_cany HCa.out.pl HBO.out) HZL.out.symm).mono ?_); rintro e wb ⟨rfl, hp, ht⟩; have HCb := Lib.hid (HCa.out.go hp ht); have HRb := Lib.hid (HRa.out.go ht); clear hp ht; obtain ⟨gr, rfl⟩ := HOA.out (by omega); have g0 := HRb.out.get (by rw [intsV_len]; exact HMM.out.symm) HO0.out; have gl := HRb.out.get (by rw [intsV_len]; exact HMM.out.symm) HOL.out))
      go_ret
      exact ⟨rfl, HCb.out.old⟩
    | true =>
      cases p with
      | true =>
        have HGOT := Lib.hid (show onL L x = t by rw [HON.out]; simp)
        obtain ⟨o0, ol, ho0, hol, hob0, hobl, hz0, hzl⟩ := HEND.out hm1
        have f0 : (o0 + 1).tmod (n : Int) = z0 := by rw [Int.tmod_eq_emod_of_nonneg (by omega), hz0, mv_pos (by omega)]
        have fl : (ol + 1).tmod (n : Int) = zl := by rw [Int.tmod_eq_emod_of_nonneg (by omega), hzl, mv_pos (by omega)]
        have HO0 := Lib.hid (intsV_get ho0)
        have HOL := Lib.hid (intsV_get hol)
        obtain ⟨k, hk⟩ : ∃ k : Nat, m = k + 1 := ⟨m - 1, by omega⟩
        have hk1 : (m : Int) - 1 = (k : Int) := by omega
        have hk2 : m - 1 = k := by omega
        rw [hk2] at HOL
        have hk3 : (0 : Int) ≤ (k : Int) := by omega
        have hk4 : (k : Int) < (m : Int) := by omega
        have hm3 : (0 : Int) < (m : Int) := by omega
        have hm4 : ((m : Int) == 0) = false := by rw [beq_eq_false_iff_ne]; omega
        have HK := Lib.hid hk
        clear ho0 hol hz0 hzl hk hk2
        go_wp2_with (first
          | (go_at_call 36; (with_reducible refine HOPN.out.mono ?_); rintro e w4 ⟨ov, rfl, hor, hol, hb4⟩; obtain ⟨oa, ocap, rfl, hoa⟩ := rrow_shape hor; have HR4 := Lib.hid (RO4 hor hol HC.out); have HC4 := Lib.hid (HC.out.below hb4); have HOA := Lib.hid hoa; clear hor hol hoa hb4)
          | (go_at_call 33; (with_reducible refine (cursor_any HC4.out.pl).mono ?_); rintro e w5 ⟨rfl, rfl⟩)
          | (go_at_call 39; (with_reducible refine (len_any HC4.out.pl).mono ?_); rw [hln]; rintro e w5 ⟨rfl, rfl⟩)
          | (go_at_call 32; (with_reducible refine (gop_k (on_any HC4.out.pl HBO.out) HGOT.out).mono ?_); rintro e w6 ⟨rfl, hp, ht⟩; have HC6 := Lib.hid (HC4.out.go hp ht); have HR6 := Lib.hid (HR4.out.go ht); clear hp ht)
          | (go_at_call 40; (with_reducible refine (at_any HC6.out.pl a1).mono ?_); rintro e w7 ⟨he, hb7⟩; rw [← HY.out] at he; simp only [Cl.val] at he; subst he; have HC7 := Lib.hid ((HC6.out.below hb7).below (below_alloc w7 (.cells #[.int .u8 yb, .bool yg, .bool true, .int .u8 yl, .int .u8 yc] 58))); have HR7 := Lib.hid ((HR6.out.below hb7).below (below_alloc w7 (.cells #[.int .u8 yb, .bool yg, .bool true, .int .u8 yl, .int .u8 yc] 58))); have c7 := heap_alloc_new w7 (.cells #[.int .u8 yb, .bool yg, .bool true, .int .u8 yl, .int .u8 yc] 58); clear hb7))
        obtain ⟨w8, hw8⟩ : ∃ w8, w8 = w7.alloc (.cells #[.int .u8 yb, .bool yg, .bool true, .int .u8 yl, .int .u8 yc] 58) := ⟨_, rfl⟩
        rw [← hw8] at HC7 HR7 c7 ⊢
        have d0 : w8.cell? ⟨w7.heap.size, 0, none⟩ = some (.int .u8 yb) := by simp [World.cell?, c7]
        have d2 : w8.cell? ⟨w7.heap.size, 2, none⟩ = some (.bool true) := by simp [World.cell?, c7]
        have HW8 := Lib.hid hw8.symm
        clear hw8 c7
        go_wp2_with (first
          | (go_at_call 37; (with_reducible refine (open_any HC7.out.pl t HBO.out).mono ?_); rintro e w9 ⟨he, hb9⟩; rw [HCT.out hm1] at he; subst he; have HC9 := Lib.hid (HC7.out.below hb9); have HR9 := Lib.hid (HR7.out.below hb9); clear hb9)
          | (go_at_call 31; (with_reducible refine (gop_k (ctHome_any HC9.out.pl HBO.out) HZ0.out.symm).mono ?_); rintro e wa ⟨rfl, hp, ht⟩; have HCa := Lib.hid (HC9.out.go hp ht); have HRa := Lib.hid (HR9.out.go ht); clear hp ht)
          | (go_at_call 29; (with_reducible refine (gop_k (back_cany HCa.out.pl HBO.out) HZL.out.symm).mono ?_); rintro e wb ⟨rfl, hp, ht⟩; have HCb := Lib.hid (HCa.out.go hp ht); have HRb := Lib.hid (HRa.out.go ht); clear hp ht; obtain ⟨gr, rfl⟩ := HOA.out (by omega); have g0 := HRb.out.get (by rw [intsV_len]; exact HMM.out.symm) HO0.out; have gl := HRb.out.get (by rw [intsV_len]; exact HMM.out.symm) HOL.out))
        go_ret
        exact ⟨rfl, HCb.out.old⟩
      | false =>
        have HGOT := Lib.hid (show onL L x = a2 by rw [HON.out]; simp)
        obtain ⟨o0, ol, ho0, hol, hob0, hobl, hz0, hzl⟩ := HEND.out hm1
        have f0 : (o0 + 1).tmod (n : Int) = z0 := by rw [Int.tmod_eq_emod_of_nonneg (by omega), hz0, mv_pos (by omega)]
        have fl : (ol + 1).tmod (n : Int) = zl := by rw [Int.tmod_eq_emod_of_nonneg (by omega), hzl, mv_pos (by omega)]
        have HO0 := Lib.hid (intsV_get ho0)
        have HOL := Lib.hid (intsV_get hol)
        obtain ⟨k, hk⟩ : ∃ k : Nat, m = k + 1 := ⟨m - 1, by omega⟩
        have hk1 : (m : Int) - 1 = (k : Int) := by omega
        have hk2 : m - 1 = k := by omega
        rw [hk2] at HOL
        have hk3 : (0 : Int) ≤ (k : Int) := by omega
        have hk4 : (k : Int) < (m : Int) := by omega
        have hm3 : (0 : Int) < (m : Int) := by omega
        have hm4 : ((m : Int) == 0) = false := by rw [beq_eq_false_iff_ne]; omega
        have HK := Lib.hid hk
        clear ho0 hol hz0 hzl hk hk2
        go_wp2_with (first
          | (go_at_call 36; (with_reducible refine HOPN.out.mono ?_); rintro e w4 ⟨ov, rfl, hor, hol, hb4⟩; obtain ⟨oa, ocap, rfl, hoa⟩ := rrow_shape hor; have HR4 := Lib.hid (RO4 hor hol HC.out); have HC4 := Lib.hid (HC.out.below hb4); have HOA := Lib.hid hoa; clear hor hol hoa hb4)
          | (go_at_call 33; (with_reducible refine (cursor_any HC4.out.pl).mono ?_); rintro e w5 ⟨rfl, rfl⟩)
          | (go_at_call 39; (with_reducible refine (len_any HC4.out.pl).mono ?_); rw [hln]; rintro e w5 ⟨rfl, rfl⟩)
          | (go_at_call 32; (with_reducible refine (gop_k (on_any HC4.out.pl HBO.out) HGOT.out).mono ?_); rintro e w6 ⟨rfl, hp, ht⟩; have HC6 := Lib.hid (HC4.out.go hp ht); have HR6 := Lib.hid (HR4.out.go ht); clear hp ht)
          | (go_at_call 40; (with_reducible refine (at_any HC6.out.pl a1).mono ?_); rintro e w7 ⟨he, hb7⟩; rw [← HY.out] at he; simp only [Cl.val] at he; subst he; have HC7 := Lib.hid ((HC6.out.below hb7).below (below_alloc w7 (.cells #[.int .u8 yb, .bool yg, .bool true, .int .u8 yl, .int .u8 yc] 58))); have HR7 := Lib.hid ((HR6.out.below hb7).below (below_alloc w7 (.cells #[.int .u8 yb, .bool yg, .bool true, .int .u8 yl, .int .u8 yc] 58))); have c7 := heap_alloc_new w7 (.cells #[.int .u8 yb, .bool yg, .bool true, .int .u8 yl, .int .u8 yc] 58); clear hb7))
        obtain ⟨w8, hw8⟩ : ∃ w8, w8 = w7.alloc (.cells #[.int .u8 yb, .bool yg, .bool true, .int .u8 yl, .int .u8 yc] 58) := ⟨_, rfl⟩
        rw [← hw8] at HC7 HR7 c7 ⊢
        have d0 : w8.cell? ⟨w7.heap.size, 0, none⟩ = some (.int .u8 yb) := by simp [World.cell?, c7]
        have d2 : w8.cell? ⟨w7.heap.size, 2, none⟩ = some (.bool true) := by simp [World.cell?, c7]
        have HW8 := Lib.hid hw8.symm
        clear hw8 c7
        go_wp2_with (first
          | (go_at_call 37; (with_reducible refine (open_any HC7.out.pl t HBO.out).mono ?_); rintro e w9 ⟨he, hb9⟩; rw [HCT.out hm1] at he; subst he; have HC9 := Lib.hid (HC7.out.below hb9); have HR9 := Lib.hid (HR7.out.below hb9); clear hb9)
          | (go_at_call 31; (with_reducible refine (gop_k (ctHome_any HC7.out.pl HBO.out) HZ0.out.symm).mono ?_); rintro e wa ⟨rfl, hp, ht⟩; have HCa := Lib.hid (HC7.out.go hp ht); have HRa := Lib.hid (HR7.out.go ht); clear hp ht)
          | (go_at_call 29; (with_reducible refine (gop_k (back_cany HCa.out.pl HBO.out) HZL.out.symm).mono ?_); rintro e wb ⟨rfl, hp, ht⟩; have HCb := Lib.hid (HCa.out.go hp ht); have HRb := Lib.hid (HRa.out.go ht); clear hp ht; obtain ⟨gr, rfl⟩ := HOA.out (by omega); have g0 := HRb.out.get (by rw [intsV_len]; exact HMM.out.symm) HO0.out; have gl := HRb.out.get (by rw [intsV_len]; exact HMM.out.symm) HOL.out))
        go_ret
        exact ⟨rfl, HCb.out.old⟩
end Go.Proofs.Ytlcjiffnmpkndaa.Pl
