/-
  The walk of CaretMoves.
-/
import Derived.Test.YtlcjiffnmpkndaaCaH
import Derived.Test.YtlcjiffnmpkndaaCaM
namespace Go.Proofs.Ytlcjiffnmpkndaa.Pl
open Go.RowKit Go.Shelf Base
set_option linter.unusedVariables false
set_option linter.unusedSimpArgs false

/-- The planes of a law, and the document's in its box. -/
structure CoB2 (w : World) (b g : Nat) (r c cur : Int) (L : List Cl) (gx n s : Nat) (x : Int) (W : World) : Prop where
  co : CoQ w b g r c cur L gx n W
  bx : W.heap[s]? = some (.cells #[.int .i64 r, .int .i64 c, .slice (some ⟨gx, 0, none⟩) n n, .int .i64 x] 29 (0, 0))
section
variable {w W W' : World} {b g : Nat} {r c cur x : Int} {L : List Cl} {gx n s : Nat}
theorem CoB2.below (h : CoB2 w b g r c cur L gx n s x W) (t : Below W.heap.size W W') : CoB2 w b g r c cur L gx n s x W' := ⟨h.co.below t, (t.block s (lt_of_block h.bx)).trans h.bx⟩
theorem CoB2.drew (h : CoB2 w b g r c cur L gx n s x W) : CoB2 w b g r c cur L gx n s x W.drew := h.below ⟨rfl, rfl, rfl, Nat.le_refl _, fun _ _ => rfl⟩
theorem CoB2.sc (h : CoB2 w b g r c cur L gx n s x W) : W.cell? ⟨s, 0, none⟩ = some (.int .i64 r) ∧ W.cell? ⟨s, 1, none⟩ = some (.int .i64 c) ∧ W.cell? ⟨s, 2, none⟩ = some (.slice (some ⟨gx, 0, none⟩) n n) ∧ W.cell? ⟨s, 3, none⟩ = some (.int .i64 x) ∧ CoB2 w b g r c cur L gx n s x W :=
  ⟨by simp [World.cell?, h.bx], by simp [World.cell?, h.bx], by simp [World.cell?, h.bx], by simp [World.cell?, h.bx], h⟩
end
/-- The plane, and the row of what is wanted. -/
structure CvQ (w : World) (b g : Nat) (r c cur : Int) (L : List Cl) (ws : Nat) (y0 y1 y2 y3 y4 y5 : Int) (W : World) : Prop where
  pl : PlAt W b g r c cur L
  wb : W.heap[ws]? = some (.cells #[.int .i64 y0, .int .i64 y1, .int .i64 y2, .int .i64 y3, .int .i64 y4, .int .i64 y5] 3 (0, 0))
  old : Below w.heap.size w W
/-- And a plane apart. -/
structure CvP (w : World) (b g : Nat) (r c cur : Int) (L : List Cl) (ws : Nat) (y0 y1 y2 y3 y4 y5 : Int) (b2 g2 : Nat) (z : Int) (W : World) : Prop where
  a : CvQ w b g r c cur L ws y0 y1 y2 y3 y4 y5 W
  q : PlAt W b2 g2 r c z L
  ne : b2 ≠ b ∧ b2 ≠ g ∧ b2 ≠ ws ∧ w.heap.size ≤ b2
section
variable {w W W' : World} {b g : Nat} {r c cur z z' : Int} {L : List Cl} {ws b2 g2 : Nat} {y0 y1 y2 y3 y4 y5 : Int}
theorem CvQ.below (h : CvQ w b g r c cur L ws y0 y1 y2 y3 y4 y5 W) (t : Below W.heap.size W W') : CvQ w b g r c cur L ws y0 y1 y2 y3 y4 y5 W' := ⟨h.pl.below t, (t.block _ (lt_of_block h.wb)).trans h.wb, h.old.trans (t.mono h.old.size)⟩
theorem CvP.below (h : CvP w b g r c cur L ws y0 y1 y2 y3 y4 y5 b2 g2 z W) (t : Below W.heap.size W W') : CvP w b g r c cur L ws y0 y1 y2 y3 y4 y5 b2 g2 z W' := ⟨h.a.below t, h.q.below t, h.ne⟩
theorem CvP.new (h : CvQ w b g r c cur L ws y0 y1 y2 y3 y4 y5 W) (hp : PlAt W' b2 g2 r c z L) (t : Below W.heap.size W W') (l1 : W.heap.size ≤ b2) : CvP w b g r c cur L ws y0 y1 y2 y3 y4 y5 b2 g2 z W' :=
  ⟨h.below t, hp, by have h1 := h.pl.lt; have h2 := h.pl.ltg; have h3 := lt_of_block h.wb; have h4 := h.old.size; omega⟩
theorem CvP.go (h : CvP w b g r c cur L ws y0 y1 y2 y3 y4 y5 b2 g2 z W) (hp : PlAt W' b2 g2 r c z' L) (t : Turn (At b2) W W') : CvP w b g r c cur L ws y0 y1 y2 y3 y4 y5 b2 g2 z' W' := by
  obtain ⟨n1, n2, n3, n4⟩ := h.ne
  exact ⟨⟨h.a.pl.turn t (Ne.symm n1) (Ne.symm n2), (t.block _ (lt_of_block h.a.wb) (Ne.symm n3)).trans h.a.wb, h.a.old.trans (t.below h.a.old.size (fun k hk => by unfold At at hk; omega))⟩, hp, h.ne⟩
end
theorem sameP_refl (r c cur : Int) (L : List Cl) : sameP r c cur r c cur L L = true := by unfold sameP; simp
set_option maxRecDepth 100000 in
set_option maxHeartbeats 16000000 in
theorem caretMoves_law {w : World} (r c : Int) {p1 p2 p3 p4 p5 : Prop} (_ : p1) (_ : p2) (v0 : Value) (L0 : List Cl) (hL : ClsAt w v0 L0 ∧ L0.length ≤ maxLen ∧ ∀ x ∈ L0, x.Ok) (a : Int) (_ : p3) (rw_ : Int) (_ : p4) (cw_ : Int) (_ : p5) :
    Calls Try.prog 4 #[.agg #[.int .i64 r, .int .i64 c], v0, .int .i64 a, .int .i64 rw_, .int .i64 cw_] w fun e W => e = .returned (.bool true) ∧ Below w.heap.size w W := by
  obtain ⟨hv, hm, hok⟩ := hL
  obtain ⟨a0, cap0, hv0, _⟩ := id hv
  subst hv0
  obtain ⟨m0, hm0⟩ : ∃ m0, m0 = L0.length := ⟨_, rfl⟩
  have HV := Lib.hid hv
  have HM := Lib.hid hm
  have HOK := Lib.hid hok
  rw [← hm0] at HV hm ⊢
  have HM0 := Lib.hid hm0
  obtain ⟨W0, hW0⟩ : ∃ W0, W0 = w.alloc (.cells #[.int .i64 r, .int .i64 c] 23) := ⟨_, rfl⟩
  have hn0 : W0.heap[w.heap.size]? = some (.cells #[.int .i64 r, .int .i64 c] 23 (0, 0)) := by rw [hW0]; exact heap_alloc_new w _
  have HN0 := Lib.hid hn0
  have B0 := Lib.hid (show Below w.heap.size w W0 by rw [hW0]; exact below_alloc w _)
  have HW0 := Lib.hid hW0.symm
  clear hv hok hm0 hW0 hn0 hm
  go_enter Try.func4, Try.ntmps4
  go_wp2_with fail
  rw [HW0.out]
  go_wp2_with (go_at_call 18; (with_reducible refine (ca_alive W0).mono ?_); rintro e w1 ⟨rfl, hb1⟩
               have n1 := (hb1.block _ (lt_of_block HN0.out)).trans HN0.out
               have q0 : w1.cell? ⟨w.heap.size, 0, none⟩ = some (.int .i64 r) := by simp [World.cell?, n1]
               have q1 : w1.cell? ⟨w.heap.size, 1, none⟩ = some (.int .i64 c) := by simp [World.cell?, n1]
               have B1 := Lib.hid (B0.out.trans (hb1.mono B0.out.size)); clear hb1 n1)
  go_at_call 19
  refine (made_any r c (.slice a0 m0 cap0) L0 a w1 (HV.out.below (B1.out.mono (Nat.le_refl _))) HM.out).mono ?_
  rintro e w2 (⟨hno, pv, r', c', a', l', k', rfl, hb2⟩ | ⟨b, g, gx, n, hcn, hn1, hn2, rfl, hpl, hrow, hb, hg, hgx, hgb, hgg, hb2⟩)
  · unfold xV
    go_wp2_with fail
    go_ret
    exact ⟨rfl, B1.out.trans ((hb2.mono B1.out.size).alloc (by have := B1.out.size; have := hb2.size; omega) _)⟩
  unfold xV
  obtain ⟨L, hL⟩ : ∃ L, L = mL n L0 L0.length := ⟨_, rfl⟩
  rw [← hL] at hpl hrow
  have hlen : L.length = n := by rw [hL, mL_length]
  have hbo : BoL L := bo_ca (fun x hx => by rw [hL] at hx; exact (mL_ok n HOK.out _ x hx).1)
  obtain ⟨x, hx⟩ : ∃ x, x = a % 256 % (n : Int) := ⟨_, rfl⟩
  have hxb : 0 ≤ x ∧ x < (n : Int) := by rw [hx]; exact ⟨Int.emod_nonneg _ (by omega), Int.emod_lt_of_pos _ (by omega)⟩
  rw [← hx] at hpl ⊢
  have hs1 := B1.out.size
  have hba := below_alloc w2 (.cells #[.int .i64 r, .int .i64 c, .slice (some ⟨gx, 0, none⟩) n n, .int .i64 x] 29)
  have cb := heap_alloc_new w2 (.cells #[.int .i64 r, .int .i64 c, .slice (some ⟨gx, 0, none⟩) n n, .int .i64 x] 29)
  have hco : CoQ w b g r c x L gx n (w2.alloc (.cells #[.int .i64 r, .int .i64 c, .slice (some ⟨gx, 0, none⟩) n n, .int .i64 x] 29)) :=
    ⟨hpl.below hba, ⟨own_below hrow hba, hlen, by omega⟩, by omega, by omega, ⟨by omega, by omega⟩, (B1.out.trans (hb2.mono hs1)).alloc (by have := hb2.size; omega) _⟩
  have HC := Lib.hid hco
  have HCB := Lib.hid cb
  have HBO := Lib.hid hbo
  have HLN := Lib.hid hlen
  have HX := Lib.hid hx
  have HCE := Lib.hid hcn
  clear hpl hrow hb2 hL hcn q0 q1 hb hg hgx hgb hgg hlen hbo hs1 hba hco cb hx
  go_upto_region 6 with fail
  obtain ⟨w3, hw3⟩ : ∃ w3, w3 = w2.alloc (.cells #[.int .i64 r, .int .i64 c, .slice (some ⟨gx, 0, none⟩) n n, .int .i64 x] 29) := ⟨_, rfl⟩
  rw [← hw3] at HC HCB ⊢
  obtain ⟨s, hs⟩ : ∃ s, s = w2.heap.size := ⟨_, rfl⟩
  rw [← hs] at HCB ⊢
  clear hw3 hs
  obtain ⟨s0, s1, s2, s3, sf⟩ := blk4 HCB.out
  have hn5 : (1 : Int) ≤ (n : Int) := by omega
  have hn6 : (n : Int) ≤ 60 := by omega
  have hln : (L.length : Int) = n := by rw [HLN.out]
  have hlen1 : 1 ≤ L.length := by rw [HLN.out]; exact hn1
  have HB0 := Lib.hid (show CoB2 w b g r c x L gx n s x w3 from ⟨HC.out, HCB.out⟩)
  obtain ⟨y0, hy0⟩ : ∃ y0, y0 = ctMoveL n r c x rw_ cw_ := ⟨_, rfl⟩
  obtain ⟨y1, hy1⟩ : ∃ y1, y1 = tabL L x := ⟨_, rfl⟩
  obtain ⟨y2, hy2⟩ : ∃ y2, y2 = backC L x := ⟨_, rfl⟩
  obtain ⟨y3, hy3⟩ : ∃ y3, y3 = nlL L c x := ⟨_, rfl⟩
  obtain ⟨y4, hy4⟩ : ∃ y4, y4 = homeL L := ⟨_, rfl⟩
  obtain ⟨y5, hy5⟩ : ∃ y5, y5 = onL L x := ⟨_, rfl⟩
  have hc0 : ∀ X, CoB2 w b g r c x L gx n s x X → Calls Try.prog 20 #[.agg #[.int .i64 r, .int .i64 c, .slice (some ⟨gx, 0, none⟩) n n, .int .i64 x], .int .i64 rw_, .int .i64 cw_] X fun e W => e = .returned (.int .i64 y0) ∧ Below X.heap.size X W := fun X h => by rw [hy0]; exact rmove19_any r c x rw_ cw_ h.co.rx HCE.out hn1
  have HC0 := Lib.hid hc0
  have HY0 := Lib.hid hy0.symm
  have hc1 : ∀ X, CoB2 w b g r c x L gx n s x X → Calls Try.prog 21 #[.agg #[.int .i64 r, .int .i64 c, .slice (some ⟨gx, 0, none⟩) n n, .int .i64 x], .int .i64 x] X fun e W => e = .returned (.int .i64 y1) ∧ Below X.heap.size X W := fun X h => by rw [hy1]; exact rtab19_any r c x x h.co.rx HBO.out hxb
  have HC1 := Lib.hid hc1
  have HY1 := Lib.hid hy1.symm
  have hc2 : ∀ X, CoB2 w b g r c x L gx n s x X → Calls Try.prog 22 #[.agg #[.int .i64 r, .int .i64 c, .slice (some ⟨gx, 0, none⟩) n n, .int .i64 x]] X fun e W => e = .returned (.int .i64 y2) ∧ Below X.heap.size X W := fun X h => by rw [hy2]; exact rback19_any r c x h.co.rx HBO.out hxb HCE.out
  have HC2 := Lib.hid hc2
  have HY2 := Lib.hid hy2.symm
  have hc3 : ∀ X, CoB2 w b g r c x L gx n s x X → Calls Try.prog 23 #[.agg #[.int .i64 r, .int .i64 c, .slice (some ⟨gx, 0, none⟩) n n, .int .i64 x]] X fun e W => e = .returned (.int .i64 y3) ∧ Below X.heap.size X W := fun X h => by rw [hy3]; exact rnl19_any r c x h.co.rx HBO.out hxb HCE.out
  have HC3 := Lib.hid hc3
  have HY3 := Lib.hid hy3.symm
  have hc4 : ∀ X, CoB2 w b g r c x L gx n s x X → Calls Try.prog 24 #[.agg #[.int .i64 r, .int .i64 c, .slice (some ⟨gx, 0, none⟩) n n, .int .i64 x]] X fun e W => e = .returned (.int .i64 y4) ∧ Below X.heap.size X W := fun X h => by rw [hy4]; exact rhome_any r c x h.co.rx HBO.out
  have HC4 := Lib.hid hc4
  have HY4 := Lib.hid hy4.symm
  have hc5 : ∀ X, CoB2 w b g r c x L gx n s x X → Calls Try.prog 25 #[.agg #[.int .i64 r, .int .i64 c, .slice (some ⟨gx, 0, none⟩) n n, .int .i64 x]] X fun e W => e = .returned (.int .i64 y5) ∧ Below X.heap.size X W := fun X h => by rw [hy5]; exact ron19_any r c x h.co.rx HBO.out hxb
  have HC5 := Lib.hid hc5
  have HY5 := Lib.hid hy5.symm
  clear hc0 hy0 hc1 hy1 hc2 hy2 hc3 hy3 hc4 hy4 hc5 hy5 s0 s1 s2 s3 sf
  go_region_held3 (fun X => X.cell? ⟨s, 0, none⟩ = some (.int .i64 r) ∧ X.cell? ⟨s, 1, none⟩ = some (.int .i64 c) ∧ X.cell? ⟨s, 2, none⟩ = some (.slice (some ⟨gx, 0, none⟩) n n) ∧ X.cell? ⟨s, 3, none⟩ = some (.int .i64 x) ∧ CoB2 w b g r c x L gx n s x X)
    (with_reducible (first | assumption | exact CoB2.sc (CoB2.drew HB0.out) | exact CoB2.sc (CoB2.below K5 (below_alloc _ _)) | exact CoB2.sc (by assumption)))
    (first
      | (go_at_call 20; (with_reducible refine (HC0.out _ (CoB2.drew HB0.out)).mono ?_); rintro e x0 ⟨rfl, hb0⟩; have K0 := CoB2.below (CoB2.drew HB0.out) hb0; clear hb0)
      | (go_at_call 21; (with_reducible refine (HC1.out _ K0).mono ?_); rintro e x1 ⟨rfl, hb1⟩; have K1 := CoB2.below K0 hb1; clear hb1)
      | (go_at_call 22; (with_reducible refine (HC2.out _ K1).mono ?_); rintro e x2 ⟨rfl, hb2⟩; have K2 := CoB2.below K1 hb2; clear hb2)
      | (go_at_call 23; (with_reducible refine (HC3.out _ K2).mono ?_); rintro e x3 ⟨rfl, hb3⟩; have K3 := CoB2.below K2 hb3; clear hb3)
      | (go_at_call 24; (with_reducible refine (HC4.out _ K3).mono ?_); rintro e x4 ⟨rfl, hb4⟩; have K4 := CoB2.below K3 hb4; clear hb4)
      | (go_at_call 25; (with_reducible refine (HC5.out _ K4).mono ?_); rintro e x5 ⟨rfl, hb5⟩; have K5 := CoB2.below K4 hb5; clear hb5))
  all_goals
    have hba := below_alloc x5 (.cells #[.int .i64 y0, .int .i64 y1, .int .i64 y2, .int .i64 y3, .int .i64 y4, .int .i64 y5] 3)
    have HV := Lib.hid (show CvQ w b g r c x L x5.heap.size y0 y1 y2 y3 y4 y5 (x5.alloc (.cells #[.int .i64 y0, .int .i64 y1, .int .i64 y2, .int .i64 y3, .int .i64 y4, .int .i64 y5] 3)) from ⟨K5.co.pl.below hba, heap_alloc_new _ _, K5.co.old.trans (hba.mono K5.co.old.size)⟩)
    obtain ⟨X6, hX6⟩ : ∃ X6, X6 = x5.alloc (.cells #[.int .i64 y0, .int .i64 y1, .int .i64 y2, .int .i64 y3, .int .i64 y4, .int .i64 y5] 3) := ⟨_, rfl⟩
    obtain ⟨ws, hws⟩ : ∃ ws, ws = x5.heap.size := ⟨_, rfl⟩
    rw [← hX6] at HV ⊢
    rw [← hws] at HV ⊢
    clear K0 K1 K2 K3 K4 K5 hba hX6 hws HC0 HC1 HC2 HC3 HC4 HC5 HB0
    go_wp2_with fail
    go_loopw [50] (fun p wr => ∃ i : Nat, p = .int .i64 i ∧ i ≤ 6 ∧ CvQ w b g r c x L ws y0 y1 y2 y3 y4 y5 wr) (fun p _ => 6 - (intOf p).toNat)
    case atStart => exact ⟨0, rfl, by omega, HV.out⟩
    case round =>
      obtain ⟨i, rfl, hi, hq⟩ := hrel
      have HQ := Lib.hid hq
      have hwb := hq.wb
      clear hq HV
      have hi5 : i = 0 ∨ i = 1 ∨ i = 2 ∨ i = 3 ∨ i = 4 ∨ i = 5 ∨ i = 6 := by omega
      rcases hi5 with rfl | rfl | rfl | rfl | rfl | rfl | rfl
      · have hcell : wr.cell? ⟨ws, 0, none⟩ = some (.int .i64 y0) := by simp [World.cell?, hwb]
        have hyy : (y0 != y0) = false := by simp
        clear hwb
        go_wp2_with (first
          | (go_at_call 26; (with_reducible refine (clone_any HQ.out.pl).mono ?_); rintro e w7 ⟨b2, g2, rfl, hp2, hb2, l1, l2⟩; have H7 := Lib.hid (CvP.new HQ.out hp2 hb2 l1); have HCT := Lib.hid (show Calls Try.prog 27 #[.pointer (some ⟨b2, 0, none⟩), .int .i64 rw_, .int .i64 cw_] w7 (GoP w7 b2 g2 r c L (ctMoveL n r c x rw_ cw_)) from by have h := ctMove_any H7.out.q rw_ cw_; rw [hln] at h; exact h); clear hp2 hb2 l1 l2)
          | (go_at_call 27; (with_reducible refine (gop_k HCT.out HY0.out).mono ?_); rintro e w8 ⟨rfl, hp, ht⟩; have H8 := Lib.hid (H7.out.go hp ht); clear hp ht)
          | (go_at_call 33; (with_reducible refine (cursor_any H8.out.q).mono ?_); rintro e w9 ⟨rfl, rfl⟩)
          | (go_at_call 33; (with_reducible refine (cursor_any H8.out.a.pl).mono ?_); rintro e w9 ⟨rfl, rfl⟩)
          | (go_at_call 34; (with_reducible refine (point_k H8.out.q x (by simp [hasL, hln]; exact hxb)).mono ?_); rintro e wa ⟨rfl, hp, ht⟩; have Ha := Lib.hid (H8.out.go hp ht); clear hp ht)
          | (go_at_call 35; (with_reducible refine (same_any Ha.out.a.pl Ha.out.q).mono ?_); rintro e wb ⟨he, hbb⟩; rw [sameP_refl] at he; subst he; have Hb := Lib.hid (Ha.out.below hbb); clear hbb))
        go_roundw
        case rel => exact ⟨1, by go_num, by omega, Hb.out.a⟩
        case measure => simp [intOf]
      · have hcell : wr.cell? ⟨ws, 1, none⟩ = some (.int .i64 y1) := by simp [World.cell?, hwb]
        have hyy : (y1 != y1) = false := by simp
        clear hwb
        go_wp2_with (first
          | (go_at_call 26; (with_reducible refine (clone_any HQ.out.pl).mono ?_); rintro e w7 ⟨b2, g2, rfl, hp2, hb2, l1, l2⟩; have H7 := Lib.hid (CvP.new HQ.out hp2 hb2 l1); have HCT := Lib.hid (show Calls Try.prog 28 #[.pointer (some ⟨b2, 0, none⟩)] w7 (GoP w7 b2 g2 r c L (tabL L x)) from tab_any H7.out.q HBO.out); clear hp2 hb2 l1 l2)
          | (go_at_call 28; (with_reducible refine (gop_k HCT.out HY1.out).mono ?_); rintro e w8 ⟨rfl, hp, ht⟩; have H8 := Lib.hid (H7.out.go hp ht); clear hp ht)
          | (go_at_call 33; (with_reducible refine (cursor_any H8.out.q).mono ?_); rintro e w9 ⟨rfl, rfl⟩)
          | (go_at_call 33; (with_reducible refine (cursor_any H8.out.a.pl).mono ?_); rintro e w9 ⟨rfl, rfl⟩)
          | (go_at_call 34; (with_reducible refine (point_k H8.out.q x (by simp [hasL, hln]; exact hxb)).mono ?_); rintro e wa ⟨rfl, hp, ht⟩; have Ha := Lib.hid (H8.out.go hp ht); clear hp ht)
          | (go_at_call 35; (with_reducible refine (same_any Ha.out.a.pl Ha.out.q).mono ?_); rintro e wb ⟨he, hbb⟩; rw [sameP_refl] at he; subst he; have Hb := Lib.hid (Ha.out.below hbb); clear hbb))
        go_roundw
        case rel => exact ⟨2, by go_num, by omega, Hb.out.a⟩
        case measure => simp [intOf]
      · have hcell : wr.cell? ⟨ws, 2, none⟩ = some (.int .i64 y2) := by simp [World.cell?, hwb]
        have hyy : (y2 != y2) = false := by simp
        clear hwb
        go_wp2_with (first
          | (go_at_call 26; (with_reducible refine (clone_any HQ.out.pl).mono ?_); rintro e w7 ⟨b2, g2, rfl, hp2, hb2, l1, l2⟩; have H7 := Lib.hid (CvP.new HQ.out hp2 hb2 l1); have HCT := Lib.hid (show Calls Try.prog 29 #[.pointer (some ⟨b2, 0, none⟩)] w7 (GoP w7 b2 g2 r c L (backC L x)) from back_cany H7.out.q HBO.out); clear hp2 hb2 l1 l2)
          | (go_at_call 29; (with_reducible refine (gop_k HCT.out HY2.out).mono ?_); rintro e w8 ⟨rfl, hp, ht⟩; have H8 := Lib.hid (H7.out.go hp ht); clear hp ht)
          | (go_at_call 33; (with_reducible refine (cursor_any H8.out.q).mono ?_); rintro e w9 ⟨rfl, rfl⟩)
          | (go_at_call 33; (with_reducible refine (cursor_any H8.out.a.pl).mono ?_); rintro e w9 ⟨rfl, rfl⟩)
          | (go_at_call 34; (with_reducible refine (point_k H8.out.q x (by simp [hasL, hln]; exact hxb)).mono ?_); rintro e wa ⟨rfl, hp, ht⟩; have Ha := Lib.hid (H8.out.go hp ht); clear hp ht)
          | (go_at_call 35; (with_reducible refine (same_any Ha.out.a.pl Ha.out.q).mono ?_); rintro e wb ⟨he, hbb⟩; rw [sameP_refl] at he; subst he; have Hb := Lib.hid (Ha.out.below hbb); clear hbb))
        go_roundw
        case rel => exact ⟨3, by go_num, by omega, Hb.out.a⟩
        case measure => simp [intOf]
      · have hcell : wr.cell? ⟨ws, 3, none⟩ = some (.int .i64 y3) := by simp [World.cell?, hwb]
        have hyy : (y3 != y3) = false := by simp
        clear hwb
        go_wp2_with (first
          | (go_at_call 26; (with_reducible refine (clone_any HQ.out.pl).mono ?_); rintro e w7 ⟨b2, g2, rfl, hp2, hb2, l1, l2⟩; have H7 := Lib.hid (CvP.new HQ.out hp2 hb2 l1); have HCT := Lib.hid (show Calls Try.prog 30 #[.pointer (some ⟨b2, 0, none⟩)] w7 (GoP w7 b2 g2 r c L (nlL L c x)) from newline_any H7.out.q HBO.out (by rw [hln]; exact hxb)); clear hp2 hb2 l1 l2)
          | (go_at_call 30; (with_reducible refine (gop_k HCT.out HY3.out).mono ?_); rintro e w8 ⟨rfl, hp, ht⟩; have H8 := Lib.hid (H7.out.go hp ht); clear hp ht)
          | (go_at_call 33; (with_reducible refine (cursor_any H8.out.q).mono ?_); rintro e w9 ⟨rfl, rfl⟩)
          | (go_at_call 33; (with_reducible refine (cursor_any H8.out.a.pl).mono ?_); rintro e w9 ⟨rfl, rfl⟩)
          | (go_at_call 34; (with_reducible refine (point_k H8.out.q x (by simp [hasL, hln]; exact hxb)).mono ?_); rintro e wa ⟨rfl, hp, ht⟩; have Ha := Lib.hid (H8.out.go hp ht); clear hp ht)
          | (go_at_call 35; (with_reducible refine (same_any Ha.out.a.pl Ha.out.q).mono ?_); rintro e wb ⟨he, hbb⟩; rw [sameP_refl] at he; subst he; have Hb := Lib.hid (Ha.out.below hbb); clear hbb))
        go_roundw
        case rel => exact ⟨4, by go_num, by omega, Hb.out.a⟩
        case measure => simp [intOf]
      · have hcell : wr.cell? ⟨ws, 4, none⟩ = some (.int .i64 y4) := by simp [World.cell?, hwb]
        have hyy : (y4 != y4) = false := by simp
        clear hwb
        go_wp2_with (first
          | (go_at_call 26; (with_reducible refine (clone_any HQ.out.pl).mono ?_); rintro e w7 ⟨b2, g2, rfl, hp2, hb2, l1, l2⟩; have H7 := Lib.hid (CvP.new HQ.out hp2 hb2 l1); have HCT := Lib.hid (show Calls Try.prog 31 #[.pointer (some ⟨b2, 0, none⟩)] w7 (GoP w7 b2 g2 r c L (homeL L)) from ctHome_any H7.out.q HBO.out); clear hp2 hb2 l1 l2)
          | (go_at_call 31; (with_reducible refine (gop_k HCT.out HY4.out).mono ?_); rintro e w8 ⟨rfl, hp, ht⟩; have H8 := Lib.hid (H7.out.go hp ht); clear hp ht)
          | (go_at_call 33; (with_reducible refine (cursor_any H8.out.q).mono ?_); rintro e w9 ⟨rfl, rfl⟩)
          | (go_at_call 33; (with_reducible refine (cursor_any H8.out.a.pl).mono ?_); rintro e w9 ⟨rfl, rfl⟩)
          | (go_at_call 34; (with_reducible refine (point_k H8.out.q x (by simp [hasL, hln]; exact hxb)).mono ?_); rintro e wa ⟨rfl, hp, ht⟩; have Ha := Lib.hid (H8.out.go hp ht); clear hp ht)
          | (go_at_call 35; (with_reducible refine (same_any Ha.out.a.pl Ha.out.q).mono ?_); rintro e wb ⟨he, hbb⟩; rw [sameP_refl] at he; subst he; have Hb := Lib.hid (Ha.out.below hbb); clear hbb))
        go_roundw
        case rel => exact ⟨5, by go_num, by omega, Hb.out.a⟩
        case measure => simp [intOf]
      · have hcell : wr.cell? ⟨ws, 5, none⟩ = some (.int .i64 y5) := by simp [World.cell?, hwb]
        have hyy : (y5 != y5) = false := by simp
        clear hwb
        go_wp2_with (first
          | (go_at_call 26; (with_reducible refine (clone_any HQ.out.pl).mono ?_); rintro e w7 ⟨b2, g2, rfl, hp2, hb2, l1, l2⟩; have H7 := Lib.hid (CvP.new HQ.out hp2 hb2 l1); have HCT := Lib.hid (show Calls Try.prog 32 #[.pointer (some ⟨b2, 0, none⟩)] w7 (GoP w7 b2 g2 r c L (onL L x)) from on_any H7.out.q HBO.out); clear hp2 hb2 l1 l2)
          | (go_at_call 32; (with_reducible refine (gop_k HCT.out HY5.out).mono ?_); rintro e w8 ⟨rfl, hp, ht⟩; have H8 := Lib.hid (H7.out.go hp ht); clear hp ht)
          | (go_at_call 33; (with_reducible refine (cursor_any H8.out.q).mono ?_); rintro e w9 ⟨rfl, rfl⟩)
          | (go_at_call 33; (with_reducible refine (cursor_any H8.out.a.pl).mono ?_); rintro e w9 ⟨rfl, rfl⟩)
          | (go_at_call 34; (with_reducible refine (point_k H8.out.q x (by simp [hasL, hln]; exact hxb)).mono ?_); rintro e wa ⟨rfl, hp, ht⟩; have Ha := Lib.hid (H8.out.go hp ht); clear hp ht)
          | (go_at_call 35; (with_reducible refine (same_any Ha.out.a.pl Ha.out.q).mono ?_); rintro e wb ⟨he, hbb⟩; rw [sameP_refl] at he; subst he; have Hb := Lib.hid (Ha.out.below hbb); clear hbb))
        go_roundw
        case rel => exact ⟨6, by go_num, by omega, Hb.out.a⟩
        case measure => simp [intOf]
      · clear hwb
        go_wp2
        go_ret
        exact ⟨rfl, HQ.out.old⟩
end Go.Proofs.Ytlcjiffnmpkndaa.Pl
