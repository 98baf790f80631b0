/-
  The walk of WipeKeeps.
-/
import Derived.Test.YtgjhboikfbafcaaWpS
import Derived.Test.YtgjhboikfbafcaaWmP
import Derived.Test.YtgjhboikfbafcaaMaskA
namespace Go.Proofs.Ytgjhboikfbafcaa.Pl
open Go.RowKit Go.Shelf Base
set_option linter.unusedVariables false
set_option linter.unusedSimpArgs false

set_option maxRecDepth 100000 in
set_option maxHeartbeats 8000000 in
theorem wipeKeeps_law {w : World} (r c : Int) {p1 p2 p3 : Prop} (_ : p1) (_ : p2) (v0 : Value) (L0 : List Cl) (hL : ClsAt w v0 L0 ∧ L0.length ≤ maxLen ∧ ∀ x ∈ L0, x.Ok) (a : Int) (_ : p3) :
    Calls Try.prog 5 #[.agg #[.int .i64 r, .int .i64 c], v0, .int .i64 a] w fun e W => e = .returned (.bool true) ∧ Below w.heap.size w W := by
  obtain ⟨hv, hm, hok⟩ := hL
  obtain ⟨a0, cap0, hv0, _⟩ := id hv
  subst hv0
  obtain ⟨m0, hm0⟩ : ∃ m0, m0 = L0.length := ⟨_, rfl⟩
  have HV := Lib.hid hv
  have HM := Lib.hid hm
  have HOK := Lib.hid hok
  rw [← hm0] at HV hm ⊢
  have HM0 := Lib.hid hm0
  obtain ⟨W0, hW0⟩ : ∃ W0, W0 = w.alloc (.cells #[.int .i64 r, .int .i64 c] 23) := ⟨_, rfl⟩
  have hn0 : W0.heap[w.heap.size]? = some (.cells #[.int .i64 r, .int .i64 c] 23 (0, 0)) := by rw [hW0]; exact heap_alloc_new w _
  have HN0 := Lib.hid hn0
  have B0 := Lib.hid (show Below w.heap.size w W0 by rw [hW0]; exact below_alloc w _)
  have HW0 := Lib.hid hW0.symm
  clear hv hok hm0 hW0 hn0 hm
  go_enter Try.func5, Try.ntmps5
  go_wp2_with fail
  rw [HW0.out]
  go_wp2_with (go_at_call 34; (with_reducible refine (wp_alive W0).mono ?_); rintro e w1 ⟨rfl, hb1⟩
               have n1 := (hb1.block _ (lt_of_block HN0.out)).trans HN0.out
               have q0 : w1.cell? ⟨w.heap.size, 0, none⟩ = some (.int .i64 r) := by simp [World.cell?, n1]
               have q1 : w1.cell? ⟨w.heap.size, 1, none⟩ = some (.int .i64 c) := by simp [World.cell?, n1]
               have B1 := Lib.hid (B0.out.trans (hb1.mono B0.out.size)); clear hb1 n1)
  go_at_call 35
  refine (made_any r c (.slice a0 m0 cap0) L0 w1 (HV.out.below (B1.out.mono (Nat.le_refl _))) HM.out).mono ?_
  rintro e w2 (⟨hno, pv, r', c', a', l', k', rfl, hb2⟩ | ⟨b, g, gx, n, hcn, hn1, hn2, rfl, hpl, hrow, hb, hg, hgx, hgb, hgg, hb2⟩)
  · unfold xV
    go_wp2_with fail
    go_ret
    exact ⟨rfl, B1.out.trans ((hb2.mono B1.out.size).alloc (by have := B1.out.size; have := hb2.size; omega) _)⟩
  unfold xV
  obtain ⟨L, hL⟩ : ∃ L, L = mL n L0 L0.length := ⟨_, rfl⟩
  rw [← hL] at hpl hrow
  have hlen : L.length = n := by rw [hL, mL_length]
  have hbo : BoL L := bo_wp (fun x hx => by rw [hL] at hx; exact (mL_ok n HOK.out _ x hx).1)
  have hs1 := B1.out.size
  have HP := Lib.hid (show Wz w b g r c 0 L (w2.alloc (.cells #[.int .i64 r, .int .i64 c, .slice (some ⟨gx, 0, none⟩) n n, .int .i64 0] 28)) from ⟨hpl.alloc _, by omega, by omega⟩)
  have HO := Lib.hid ((B1.out.trans (hb2.mono hs1)).alloc (by have := hb2.size; omega) (.cells #[.int .i64 r, .int .i64 c, .slice (some ⟨gx, 0, none⟩) n n, .int .i64 0] 28))
  have HBO := Lib.hid hbo
  have HLN := Lib.hid hlen
  clear hpl hrow hb2 hL hcn q0 q1 hb hg hgx hgb hgg hlen hbo hs1
  go_upto_region 6 with fail
  obtain ⟨w3, hw3⟩ : ∃ w3, w3 = w2.alloc (.cells #[.int .i64 r, .int .i64 c, .slice (some ⟨gx, 0, none⟩) n n, .int .i64 0] 28) := ⟨_, rfl⟩
  rw [← hw3] at HP HO ⊢
  clear hw3
  have hbq : BoL (restL L a) := by
    unfold restL
    split
    · refine bo_fill ?_ _
      unfold markL
      split
      · exact HBO.out
      · exact modL_bo HBO.out _ _
    · exact HBO.out
  have hbr : BoL (openL L) := by
    unfold openL
    exact (opP_keeps _ (bo_open0 HBO.out) _).2.2
  have HBQ := Lib.hid hbq
  have HBR := Lib.hid hbr
  clear hbq hbr
  go_wp2_with (first
    | (go_at_call 36; refine (clone_any HC1.out.pl).mono ?_; rintro e w6 ⟨b3, g3, rfl, hp6, hb6, lb3, lg3⟩; have HX := Lib.hid (Wz3.made HP.out HO.out HC0.out.1 HC0.out.2.1 HC0.out.2.2.1 HC0.out.2.2.2 hp6 hb6 lb3 lg3); clear hp6 hb6 lb3 lg3)
    | (go_at_call 36; refine (clone_any HP.out.pl).mono ?_; rintro e w5 ⟨b2, g2, rfl, hp5, hb5, lb2, lg2⟩; have HC1 := Lib.hid (HP.out.below hb5); have HC0 := Lib.hid (And.intro hp5 (And.intro hb5 (And.intro lb2 lg2))); clear hp5 hb5 lb2 lg2)
    | (go_at_call 37; refine (rest_any HX.out.q.pl a HBO.out).mono ?_; rintro e w7 ⟨rfl, hp7, ht7⟩; have HX7 := Lib.hid (HX.out.two hp7 (ht7.mono fun k hk => .inr hk)); clear hp7 ht7)
    | (go_at_call 38; refine (wopen_any HX7.out.r.pl HBO.out).mono ?_; rintro e w8 ⟨rfl, hp8, ht8⟩; have HX8 := Lib.hid (HX7.out.three hp8 ht8); clear hp8 ht8)
    | (go_at_call 39; (with_reducible refine (len_any HX8.out.p.pl).mono ?_); rintro e w9 ⟨rfl, rfl⟩; rw [HLN.out]))
  obtain ⟨N, hN⟩ : ∃ N, N = restN L a := ⟨_, rfl⟩
  obtain ⟨oa, hoa⟩ : ∃ oa, oa = opnL L a := ⟨_, rfl⟩
  obtain ⟨u, hu⟩ : ∃ u, u = curO L 0 := ⟨_, rfl⟩
  rw [← hN, ← hoa] 
  rw [← hu] at HX8
  have HNN := Lib.hid hN
  have HOA := Lib.hid hoa
  have HU := Lib.hid hu
  clear hN hoa hu HX HX7 HC0 HC1 HP HO
  go_loopw [43] (fun p wr => ∃ i : Nat, p = .int .i64 i ∧ i ≤ n ∧ Wz3 w r c b g b2 g2 b3 g3 0 0 u L (restL L a) (openL L) wr) (fun p _ => n - (intOf p).toNat)
  case atStart => exact ⟨0, rfl, Nat.zero_le _, HX8.out⟩
  case round =>
    obtain ⟨i, rfl, hi, hq⟩ := hrel
    have HQ := Lib.hid hq
    clear hq HX8
    by_cases hi1 : i < n
    · have hii : (i : Int) < (n : Int) := by omega
      obtain ⟨l1, l2⟩ := rest_leaves (L := L) (a := a) (i := (i : Int))
      obtain ⟨m1, m2, m3⟩ := open_leaves (L := L) (i := (i : Int)) (by omega) (by rw [HLN.out]; omega)
      have hbi := HBO.out (i : Int)
      have hqi := HBQ.out (i : Int)
      have hri := HBR.out (i : Int)
      have hos := open_self (L := L) (p := (i : Int)) (by omega) (by rw [HLN.out]; omega)
      obtain ⟨x, hx⟩ : ∃ x, x = atL L (i : Int) := ⟨_, rfl⟩
      obtain ⟨y, hy⟩ : ∃ y, y = atL (restL L a) (i : Int) := ⟨_, rfl⟩
      obtain ⟨z, hz⟩ : ∃ z, z = atL (openL L) (i : Int) := ⟨_, rfl⟩
      obtain ⟨op, hop⟩ : ∃ op, op = opnL L (i : Int) := ⟨_, rfl⟩
      rw [← hx] at l1 l2 m1 m2 hbi hos
      rw [← hy] at l1 l2 hqi
      rw [← hz] at m1 m2 m3 hri
      rw [← hop] at l2 m2 m3 hos
      have HX := Lib.hid hx
      have HY := Lib.hid hy
      have HZ := Lib.hid hz
      have HOP := Lib.hid hop
      obtain ⟨xb, xg, xs, xl, xc⟩ := x
      obtain ⟨yb, yg, ys, yl, yc⟩ := y
      obtain ⟨zb, zg, zs, zl, zc⟩ := z
      simp only at l1 l2 m1 m2 hbi hqi hri hos
      have HL1 := Lib.hid l1
      have HL2 := Lib.hid l2
      have HM1 := Lib.hid m1
      have HM2 := Lib.hid m2
      have HM3 := Lib.hid m3
      have HOS := Lib.hid hos
      clear hx hy hz hop l1 l2 m1 m2 m3 hos
      go_wp2_with (go_at_call 40; (with_reducible refine (at_is HQ.out.p.pl HX.out).mono ?_); rintro e wa ⟨rfl, hba⟩; simp only [Cl.val]; have HQa := Lib.hid (HQ.out.below hba); clear hba)
      obtain ⟨B, hB⟩ : ∃ B, B = wa.heap.size := ⟨_, rfl⟩
      have hbx := heap_alloc_new wa (.cells #[.int .u8 xb, .bool xg, .bool xs, .int .u8 xl, .int .u8 xc] 45)
      have hz3 := HQa.out.below (below_alloc wa (.cells #[.int .u8 xb, .bool xg, .bool xs, .int .u8 xl, .int .u8 xc] 45))
      rw [← hB] at hbx ⊢
      obtain ⟨X0, hX0⟩ : ∃ X0, X0 = wa.alloc (.cells #[.int .u8 xb, .bool xg, .bool xs, .int .u8 xl, .int .u8 xc] 45) := ⟨_, rfl⟩
      rw [← hX0] at hbx hz3 ⊢
      clear hB hX0 HQa
      obtain ⟨Q, hQd⟩ : ∃ Q : World → Prop, Q = fun X => Wz3 w r c b g b2 g2 b3 g3 0 0 u L (restL L a) (openL L) X ∧ X.heap[B]? = some (.cells #[.int .u8 xb, .bool xg, .bool xs, .int .u8 xl, .int .u8 xc] 45 (0, 0)) := ⟨_, rfl⟩
      have hQ0 : Q X0 := by rw [hQd]; exact ⟨hz3, hbx⟩
      have hBL : ∀ X Y, Q X → Below X.heap.size X Y → Q Y := by
        intro X Y hX t; rw [hQd] at hX ⊢; exact ⟨hX.1.below t, (t.block B (lt_of_block hX.2)).trans hX.2⟩
      have HDR := Lib.hid (show ∀ X, Q X → Q X.drew by intro X hX; rw [hQd] at hX ⊢; exact ⟨hX.1.drew, hX.2⟩)
      have HDN := Lib.hid (show ∀ X m, Q X → Q (X.drewN m) by intro X m hX; rw [hQd] at hX ⊢; exact ⟨hX.1.drewN m, hX.2⟩)
      have HTR := Lib.hid (show ∀ X, Q X → Wz3 w r c b g b2 g2 b3 g3 0 0 u L (restL L a) (openL L) X by intro X hX; rw [hQd] at hX; exact hX.1)
      have HS := Lib.hid (show ∀ X, Q X → X.cell? ⟨B, 0, none⟩ = some (.int .u8 xb) ∧ X.cell? ⟨B, 1, none⟩ = some (.bool xg) ∧ X.cell? ⟨B, 2, none⟩ = some (.bool xs) ∧ X.cell? ⟨B, 3, none⟩ = some (.int .u8 xl) ∧ X.cell? ⟨B, 4, none⟩ = some (.int .u8 xc) ∧ Q X by
        intro X hX
        have h2 := hX
        rw [hQd] at h2
        exact ⟨by simp [World.cell?, h2.2], by simp [World.cell?, h2.2], by simp [World.cell?, h2.2], by simp [World.cell?, h2.2], by simp [World.cell?, h2.2], hX⟩)
      have OFS := Lib.hid (show ∀ X, (X.cell? ⟨B, 0, none⟩ = some (.int .u8 xb) ∧ X.cell? ⟨B, 1, none⟩ = some (.bool xg) ∧ X.cell? ⟨B, 2, none⟩ = some (.bool xs) ∧ X.cell? ⟨B, 3, none⟩ = some (.int .u8 xl) ∧ X.cell? ⟨B, 4, none⟩ = some (.int .u8 xc) ∧ Q X) → Q X from fun X h => h.2.2.2.2.2)
      have HAq := Lib.hid (show ∀ X, Q X → Calls Try.prog 40 #[.pointer (some ⟨b2, 0, none⟩), .int .i64 i] X fun e Y => e = .returned (.agg #[.int .u8 yb, .bool yg, .bool ys, .int .u8 yl, .int .u8 yc]) ∧ Q Y from fun X hX => (at_is (HTR.out X hX).q.pl HY.out).mono fun e Y ⟨h1, h2⟩ => ⟨h1, hBL X Y hX h2⟩)
      have HAr := Lib.hid (show ∀ X, Q X → Calls Try.prog 40 #[.pointer (some ⟨b3, 0, none⟩), .int .i64 i] X fun e Y => e = .returned (.agg #[.int .u8 zb, .bool zg, .bool zs, .int .u8 zl, .int .u8 zc]) ∧ Q Y from fun X hX => (at_is (HTR.out X hX).r.pl HZ.out).mono fun e Y ⟨h1, h2⟩ => ⟨h1, hBL X Y hX h2⟩)
      have HOo := Lib.hid (show ∀ X, Q X → Calls Try.prog 26 #[.pointer (some ⟨b, 0, none⟩), .int .i64 i] X fun e Y => e = .returned (.bool op) ∧ Q Y from fun X hX => (open_any (HTR.out X hX).p.pl (i : Int) HBO.out).mono fun e Y ⟨h1, h2⟩ => ⟨by rw [h1, HOP.out], hBL X Y hX h2⟩)
      have HQ0 := Lib.hid hQ0
      have hfy := cell_byte yb yg ys yl yc
      have hfz := cell_byte zb zg zs zl zc
      have hgy := cell_start yb yg ys yl yc
      have hgz := cell_start zb zg zs zl zc
      have hneq : ∀ (w : World) (xb : Int) (xg xs : Bool) (xl xc : Int), (binOp .neq 45 (.agg #[.int .u8 xb, .bool xg, .bool xs, .int .u8 xl, .int .u8 xc]) (.agg #[.int .u8 xb, .bool xg, .bool xs, .int .u8 xl, .int .u8 xc])).run Try.prog w = .ok (.bool false) w := fun w xb xg xs xl xc => by
        have := run_neq_cl w ⟨xb, xg, xs, xl, xc⟩ ⟨xb, xg, xs, xl, xc⟩
        rw [decide_eq_true rfl] at this
        exact this
      clear hbx hz3 hQ0 hBL hQd HX HY HZ HQ
      cases xs with
      | true =>
        obtain rfl : op = false := HOS.out rfl
        obtain ⟨rfl, hmy⟩ := HL1.out rfl
        obtain ⟨rfl, hmz⟩ := HM1.out rfl
        obtain ⟨m, hm⟩ : ∃ m, m = Attr.modify xb false := ⟨_, rfl⟩
        rw [← hm] at hmy hmz
        have HMx := Lib.hid (show ∀ X : World, Calls Try.prog 41 #[.int .u8 xb, .bool false] X fun e Y => e = .returned (.int .u8 m) ∧ X = Y from fun X => (Attr.modify_any xb X hbi.1 hbi.2 false).mono fun e Y ⟨h1, h2⟩ => ⟨by rw [h1, ← hm], h2⟩)
        have HMy := Lib.hid (show ∀ X : World, Calls Try.prog 41 #[.int .u8 yb, .bool false] X fun e Y => e = .returned (.int .u8 m) ∧ X = Y from fun X => (Attr.modify_any yb X hqi.1 hqi.2 false).mono fun e Y ⟨h1, h2⟩ => ⟨by rw [h1, hmy], h2⟩)
        have HMz := Lib.hid (show ∀ X : World, Calls Try.prog 41 #[.int .u8 zb, .bool false] X fun e Y => e = .returned (.int .u8 m) ∧ X = Y from fun X => (Attr.modify_any zb X hri.1 hri.2 false).mono fun e Y ⟨h1, h2⟩ => ⟨by rw [h1, hmz], h2⟩)
        have hmm : (m != m) = false := by simp
        clear hm hmy hmz HL1 HL2 HM1 HM2 HM3 HOS
        go_cut [86] (fun v wx => v = .bool false ∧ Q wx)
        case first =>
          first
          | (go_region_held3 (fun X => X.cell? ⟨B, 0, none⟩ = some (.int .u8 xb) ∧ X.cell? ⟨B, 1, none⟩ = some (.bool xg) ∧ X.cell? ⟨B, 2, none⟩ = some (.bool true) ∧ X.cell? ⟨B, 3, none⟩ = some (.int .u8 xl) ∧ X.cell? ⟨B, 4, none⟩ = some (.int .u8 xc) ∧ Q X)
              (with_reducible (first | assumption | exact HS.out _ (by assumption) | exact HS.out _ (HDR.out _ (by assumption)) | exact HS.out _ (HDR.out _ HQ0.out) | exact HS.out _ HQ0.out))
              (first
              | (go_at_call 40; (with_reducible refine (HAq.out _ (OFS.out _ (by assumption))).mono ?_); rintro e wn ⟨rfl, hqn⟩)
              | (go_at_call 40; (with_reducible refine (HAr.out _ (OFS.out _ (by assumption))).mono ?_); rintro e wn ⟨rfl, hqn⟩)
              | (go_at_call 26; (with_reducible refine (HOo.out _ (OFS.out _ (by assumption))).mono ?_); rintro e wn ⟨rfl, hqn⟩)
              | (go_at_call 41; (with_reducible refine (HMx.out _).mono ?_); rintro e wn ⟨rfl, rfl⟩)
              | (go_at_call 41; (with_reducible refine (HMy.out _).mono ?_); rintro e wn ⟨rfl, rfl⟩)
              | (go_at_call 41; (with_reducible refine (HMz.out _).mono ?_); rintro e wn ⟨rfl, rfl⟩)))
          | fail
          all_goals
            go_wp2_with fail
            go_meet
            first
              | exact ⟨rfl, by assumption⟩
              | exact ⟨rfl, HDR.out _ (by assumption)⟩
        case rest =>
        obtain ⟨rfl, hcu⟩ := hcut
        have HQ1 := Lib.hid hcu
        clear hcu
        go_upto_region 15 with fail
        go_cut [109] (fun v wx => v = .bool false ∧ Q wx)
        case first =>
          obtain ⟨d0, d1, d2, d3, d4, _⟩ := HS.out _ HQ1.out
          go_quiet (fail)
          go_wp2_with fail
          go_meet
          exact ⟨rfl, HDN.out _ _ HQ1.out⟩
        case rest =>
        obtain ⟨rfl, hcu⟩ := hcut
        have HQ2 := Lib.hid hcu
        clear hcu
        go_wp2_with (first
          | (go_at_call 26; (with_reducible refine (HOo.out _ HQ2.out).mono ?_); rintro e wn ⟨rfl, hqn⟩; have HQ3 := Lib.hid hqn; clear hqn)
          | (go_at_call 40; (with_reducible refine (HAr.out _ HQ3.out).mono ?_); rintro e wn ⟨rfl, hqn⟩; have HQ4 := Lib.hid hqn; clear hqn))
        exact ⟨⟨i + 1, by go_num, by omega, HTR.out _ HQ3.out⟩, by simp [intOf]; omega⟩
      | false =>
        clear HL1 HM1 HOS
        go_cut [86] (fun v wx => v = .bool false ∧ Q wx)
        case first =>
          obtain ⟨d0, d1, d2, d3, d4, _⟩ := HS.out _ HQ0.out
          go_quiet (fail)
          go_wp2_with fail
          go_meet
          exact ⟨rfl, HDN.out _ _ HQ0.out⟩
        case rest =>
        obtain ⟨rfl, hcu⟩ := hcut
        have HQ1 := Lib.hid hcu
        clear hcu
        cases op with
        | true =>
          have hz0 := HM3.out rfl
          unfold c0 at hz0
          injection hz0 with z1 z2 z3 z4 z5
          subst z1 z2 z3 z4 z5
          clear HL2 HM2 HM3
          go_upto_region 15 with fail
          go_cut [109] (fun v wx => v = .bool false ∧ Q wx)
          case first =>
            refine wp_region_held_drew (S := (fun X => X.cell? ⟨B, 0, none⟩ = some (.int .u8 xb) ∧ X.cell? ⟨B, 1, none⟩ = some (.bool xg) ∧ X.cell? ⟨B, 2, none⟩ = some (.bool false) ∧ X.cell? ⟨B, 3, none⟩ = some (.int .u8 xl) ∧ X.cell? ⟨B, 4, none⟩ = some (.int .u8 xc) ∧ Q X)) (by kernel_rfl) (HS.out _ (HDR.out _ HQ1.out)) (fun hHeld => ?_)
            refine wpAnyH_take (i := 0) (oi := { dst := some 87, op := Op.fieldAddr 45 (Operand.tmp 15) 2, type := 0, pos := "law.go:103", after := #[], guard := none }) (v := ?_) rfl (by kernel_rfl) (by kernel_rfl) (by kernel_rfl) (fun _ _ _ h => h) (Or.inl ⟨by rfl, ?_⟩) (by assumption) ?_
            rotate_left
            focus (intro w hSw; (try dsimp only at hSw); go_simp; try (with_reducible rfl))
            try simp only [Act.put, List.setIfInBounds_toArray, List.set_cons_zero, List.set_cons_succ]
            refine wpAnyH_take (i := 1) (oi := { dst := some 88, op := Op.load 4 (Operand.tmp 87), type := 4, pos := "law.go:103", after := #[{ on := 0, ground := Ground.data }], guard := none }) (v := ?_) rfl (by kernel_rfl) (by kernel_rfl) (by kernel_rfl) (fun _ _ _ h => h) (Or.inl ⟨by rfl, ?_⟩) (by assumption) ?_
            rotate_left
            focus (intro w hSw; (try dsimp only at hSw); go_simp; try (with_reducible rfl))
            try simp only [Act.put, List.setIfInBounds_toArray, List.set_cons_zero, List.set_cons_succ]
            refine wpAnyH_take (i := 2) (oi := { dst := some 89, op := Op.unOp UnOp.not 4 (Operand.tmp 88), type := 4, pos := "law.go:103", after := #[{ on := 1, ground := Ground.data }], guard := none }) (v := ?_) rfl (by kernel_rfl) (by kernel_rfl) (by kernel_rfl) (fun _ _ _ h => h) (Or.inl ⟨by rfl, ?_⟩) (by assumption) ?_
            rotate_left
            focus (intro w hSw; (try dsimp only at hSw); go_simp; try (with_reducible rfl))
            try simp only [Act.put, List.setIfInBounds_toArray, List.set_cons_zero, List.set_cons_succ]
            refine wpAnyH_take (i := 3) (oi := { dst := some 90, op := Op.move (Operand.tmp 89), type := 4, pos := "law.go:103", after := #[{ on := 2, ground := Ground.data }], guard := none }) (v := ?_) rfl (by kernel_rfl) (by kernel_rfl) (by kernel_rfl) (fun _ _ _ h => h) (Or.inl ⟨by rfl, ?_⟩) (by assumption) ?_
            rotate_left
            focus (intro w hSw; (try dsimp only at hSw); go_simp; try (with_reducible rfl))
            try simp only [Act.put, List.setIfInBounds_toArray, List.set_cons_zero, List.set_cons_succ]
            refine wpAnyH_take (i := 4) (oi := { dst := some 91, op := Op.move (Operand.tmp 7), type := 26, pos := "law.go:103", after := #[{ on := 3, ground := Ground.guard }], guard := some (3, true) }) (v := ?_) rfl (by kernel_rfl) (by kernel_rfl) (by kernel_rfl) (fun _ _ _ h => h) (Or.inl ⟨by rfl, ?_⟩) (by assumption) ?_
            rotate_left
            focus (intro w hSw; (try dsimp only at hSw); go_simp; try (with_reducible rfl))
            try simp only [Act.put, List.setIfInBounds_toArray, List.set_cons_zero, List.set_cons_succ]
            refine wpAnyH_take (i := 5) (oi := { dst := some 92, op := Op.move (Operand.tmp 14), type := 3, pos := "law.go:103", after := #[{ on := 3, ground := Ground.guard }], guard := some (3, true) }) (v := ?_) rfl (by kernel_rfl) (by kernel_rfl) (by kernel_rfl) (fun _ _ _ h => h) (Or.inl ⟨by rfl, ?_⟩) (by assumption) ?_
            rotate_left
            focus (intro w hSw; (try dsimp only at hSw); go_simp; try (with_reducible rfl))
            try simp only [Act.put, List.setIfInBounds_toArray, List.set_cons_zero, List.set_cons_succ]
            refine wpAnyH_ready (rs := [6]) (by kernel_rfl) (by simp) (AllReadyH.cons (o := { dst := some 93, op := Op.call { callee := Callee.value (Operand.func 26), args := #[Operand.tmp 91, Operand.tmp 92], argTypes := #[26, 3] }, type := 4, pos := "law.go:103", after := #[{ on := 4, ground := Ground.data }, { on := 5, ground := Ground.data }, { on := 3, ground := Ground.chain }, { on := 3, ground := Ground.guard }], guard := some (3, true) }) rfl (fun K hK => ?_) AllReadyH.nil)
            go_simp
            go_at_call 26
            refine (HOo.out _ (HDR.out _ HQ1.out)).mono ?_
            rintro e w5 ⟨rfl, hq5⟩
            have HQ5 := Lib.hid hq5
            clear hq5
            go_wp2_with fail
            refine hK.out _ _ (HS.out _ HQ5.out) (fun hHeld => ?_)
            clear hK K
            try simp only [Act.put, List.setIfInBounds_toArray, List.set_cons_zero, List.set_cons_succ]
            refine wpAnyH_take (i := 7) (oi := { dst := some 94, op := Op.unOp UnOp.not 4 (Operand.tmp 93), type := 4, pos := "law.go:103", after := #[{ on := 6, ground := Ground.data }, { on := 3, ground := Ground.guard }], guard := some (3, true) }) (v := ?_) rfl (by kernel_rfl) (by kernel_rfl) (by kernel_rfl) (fun _ _ _ h => h) (Or.inl ⟨by rfl, ?_⟩) (by assumption) ?_
            rotate_left
            focus (intro w hSw; (try dsimp only at hSw); go_simp; try (with_reducible rfl))
            try simp only [Act.put, List.setIfInBounds_toArray, List.set_cons_zero, List.set_cons_succ]
            refine wpAnyH_take (i := 8) (oi := { dst := some 95, op := Op.pick (Operand.tmp 90) (Operand.tmp 94) (Operand.const (Value.bool false)), type := 4, pos := "law.go:103", after := #[{ on := 3, ground := Ground.data }, { on := 7, ground := Ground.data }], guard := none }) (v := ?_) rfl (by kernel_rfl) (by kernel_rfl) (by kernel_rfl) (fun _ _ _ h => h) (Or.inl ⟨by rfl, ?_⟩) (by assumption) ?_
            rotate_left
            focus (intro w hSw; (try dsimp only at hSw); go_simp; try (with_reducible rfl))
            try simp only [Act.put, List.setIfInBounds_toArray, List.set_cons_zero, List.set_cons_succ]
            refine wpAnyH_take (i := 9) (oi := { dst := some 96, op := Op.move (Operand.tmp 95), type := 4, pos := "law.go:103", after := #[{ on := 8, ground := Ground.data }, { on := 6, ground := Ground.chain }], guard := none }) (v := ?_) rfl (by kernel_rfl) (by kernel_rfl) (by kernel_rfl) (fun _ _ _ h => h) (Or.inl ⟨by rfl, ?_⟩) (by assumption) ?_
            rotate_left
            focus (intro w hSw; (try dsimp only at hSw); go_simp; try (with_reducible rfl))
            try simp only [Act.put, List.setIfInBounds_toArray, List.set_cons_zero, List.set_cons_succ]
            refine wpAnyH_take (i := 10) (oi := { dst := some 97, op := Op.move (Operand.tmp 10), type := 26, pos := "law.go:103", after := #[{ on := 9, ground := Ground.guard }], guard := some (9, true) }) (v := undef) rfl (by kernel_rfl) (by kernel_rfl) (by kernel_rfl) (fun _ _ _ h => h) (Or.inr ⟨by rfl, rfl⟩) (by assumption) ?_
            try simp only [Act.put, List.setIfInBounds_toArray, List.set_cons_zero, List.set_cons_succ]
            refine wpAnyH_take (i := 11) (oi := { dst := some 98, op := Op.move (Operand.tmp 14), type := 3, pos := "law.go:103", after := #[{ on := 9, ground := Ground.guard }], guard := some (9, true) }) (v := undef) rfl (by kernel_rfl) (by kernel_rfl) (by kernel_rfl) (fun _ _ _ h => h) (Or.inr ⟨by rfl, rfl⟩) (by assumption) ?_
            try simp only [Act.put, List.setIfInBounds_toArray, List.set_cons_zero, List.set_cons_succ]
            refine wpAnyH_take (i := 12) (oi := { dst := some 99, op := Op.call { callee := Callee.value (Operand.func 40), args := #[Operand.tmp 97, Operand.tmp 98], argTypes := #[26, 3] }, type := 45, pos := "law.go:103", after := #[{ on := 10, ground := Ground.data }, { on := 11, ground := Ground.data }, { on := 9, ground := Ground.chain }, { on := 9, ground := Ground.guard }], guard := some (9, true) }) (v := undef) rfl (by kernel_rfl) (by kernel_rfl) (by kernel_rfl) (fun _ _ _ h => h) (Or.inr ⟨by rfl, rfl⟩) (by assumption) ?_
            try simp only [Act.put, List.setIfInBounds_toArray, List.set_cons_zero, List.set_cons_succ]
            refine wpAnyH_take (i := 13) (oi := { dst := some 100, op := Op.load 45 (Operand.tmp 15), type := 45, pos := "law.go:103", after := #[{ on := 9, ground := Ground.guard }], guard := some (9, true) }) (v := undef) rfl (by kernel_rfl) (by kernel_rfl) (by kernel_rfl) (fun _ _ _ h => h) (Or.inr ⟨by rfl, rfl⟩) (by assumption) ?_
            try simp only [Act.put, List.setIfInBounds_toArray, List.set_cons_zero, List.set_cons_succ]
            refine wpAnyH_take (i := 14) (oi := { dst := some 101, op := Op.binOp BinOp.neq 45 (Operand.tmp 99) (Operand.tmp 100) 45, type := 4, pos := "law.go:103", after := #[{ on := 12, ground := Ground.data }, { on := 13, ground := Ground.data }, { on := 9, ground := Ground.guard }], guard := some (9, true) }) (v := undef) rfl (by kernel_rfl) (by kernel_rfl) (by kernel_rfl) (fun _ _ _ h => h) (Or.inr ⟨by rfl, rfl⟩) (by assumption) ?_
            try simp only [Act.put, List.setIfInBounds_toArray, List.set_cons_zero, List.set_cons_succ]
            refine wpAnyH_take (i := 15) (oi := { dst := some 102, op := Op.move (Operand.tmp 101), type := 4, pos := "law.go:103", after := #[{ on := 14, ground := Ground.data }, { on := 12, ground := Ground.chain }, { on := 9, ground := Ground.guard }], guard := some (9, true) }) (v := undef) rfl (by kernel_rfl) (by kernel_rfl) (by kernel_rfl) (fun _ _ _ h => h) (Or.inr ⟨by rfl, rfl⟩) (by assumption) ?_
            try simp only [Act.put, List.setIfInBounds_toArray, List.set_cons_zero, List.set_cons_succ]
            refine wpAnyH_take (i := 16) (oi := { dst := some 103, op := Op.move (Operand.tmp 11), type := 26, pos := "law.go:103", after := #[{ on := 15, ground := Ground.guard }], guard := some (15, false) }) (v := undef) rfl (by kernel_rfl) (by kernel_rfl) (by kernel_rfl) (fun _ _ _ h => h) (Or.inr ⟨by rfl, rfl⟩) (by assumption) ?_
            try simp only [Act.put, List.setIfInBounds_toArray, List.set_cons_zero, List.set_cons_succ]
            refine wpAnyH_take (i := 17) (oi := { dst := some 104, op := Op.move (Operand.tmp 14), type := 3, pos := "law.go:103", after := #[{ on := 15, ground := Ground.guard }], guard := some (15, false) }) (v := undef) rfl (by kernel_rfl) (by kernel_rfl) (by kernel_rfl) (fun _ _ _ h => h) (Or.inr ⟨by rfl, rfl⟩) (by assumption) ?_
            try simp only [Act.put, List.setIfInBounds_toArray, List.set_cons_zero, List.set_cons_succ]
            refine wpAnyH_take (i := 18) (oi := { dst := some 105, op := Op.call { callee := Callee.value (Operand.func 40), args := #[Operand.tmp 103, Operand.tmp 104], argTypes := #[26, 3] }, type := 45, pos := "law.go:103", after := #[{ on := 16, ground := Ground.data }, { on := 17, ground := Ground.data }, { on := 15, ground := Ground.chain }, { on := 15, ground := Ground.guard }], guard := some (15, false) }) (v := undef) rfl (by kernel_rfl) (by kernel_rfl) (by kernel_rfl) (fun _ _ _ h => h) (Or.inr ⟨by rfl, rfl⟩) (by assumption) ?_
            try simp only [Act.put, List.setIfInBounds_toArray, List.set_cons_zero, List.set_cons_succ]
            refine wpAnyH_take (i := 19) (oi := { dst := some 106, op := Op.load 45 (Operand.tmp 15), type := 45, pos := "law.go:103", after := #[{ on := 15, ground := Ground.guard }], guard := some (15, false) }) (v := undef) rfl (by kernel_rfl) (by kernel_rfl) (by kernel_rfl) (fun _ _ _ h => h) (Or.inr ⟨by rfl, rfl⟩) (by assumption) ?_
            try simp only [Act.put, List.setIfInBounds_toArray, List.set_cons_zero, List.set_cons_succ]
            refine wpAnyH_take (i := 20) (oi := { dst := some 107, op := Op.binOp BinOp.neq 45 (Operand.tmp 105) (Operand.tmp 106) 45, type := 4, pos := "law.go:103", after := #[{ on := 18, ground := Ground.data }, { on := 19, ground := Ground.data }, { on := 15, ground := Ground.guard }], guard := some (15, false) }) (v := undef) rfl (by kernel_rfl) (by kernel_rfl) (by kernel_rfl) (fun _ _ _ h => h) (Or.inr ⟨by rfl, rfl⟩) (by assumption) ?_
            try simp only [Act.put, List.setIfInBounds_toArray, List.set_cons_zero, List.set_cons_succ]
            refine wpAnyH_take (i := 21) (oi := { dst := some 108, op := Op.pick (Operand.tmp 102) (Operand.const (Value.bool true)) (Operand.tmp 107), type := 4, pos := "law.go:103", after := #[{ on := 15, ground := Ground.data }, { on := 20, ground := Ground.data }, { on := 9, ground := Ground.guard }], guard := some (9, true) }) (v := undef) rfl (by kernel_rfl) (by kernel_rfl) (by kernel_rfl) (fun _ _ _ h => h) (Or.inr ⟨by rfl, rfl⟩) (by assumption) ?_
            try simp only [Act.put, List.setIfInBounds_toArray, List.set_cons_zero, List.set_cons_succ]
            refine wpAnyH_take (i := 22) (oi := { dst := some 109, op := Op.pick (Operand.tmp 96) (Operand.tmp 108) (Operand.const (Value.bool false)), type := 4, pos := "law.go:103", after := #[{ on := 9, ground := Ground.data }, { on := 21, ground := Ground.data }], guard := none }) (v := ?_) rfl (by kernel_rfl) (by kernel_rfl) (by kernel_rfl) (fun _ _ _ h => h) (Or.inl ⟨by rfl, ?_⟩) (by assumption) ?_
            rotate_left
            focus (intro w hSw; (try dsimp only at hSw); go_simp; try (with_reducible rfl))
            try simp only [Act.put, List.setIfInBounds_toArray, List.set_cons_zero, List.set_cons_succ]
            refine wpAnyH_done (by kernel_rfl) ?_ _
            go_wp2_with fail
            go_meet
            exact ⟨rfl, HQ5.out⟩
          case rest =>
          obtain ⟨rfl, hcu⟩ := hcut
          have HQ2 := Lib.hid hcu
          clear hcu
          go_wp2_with (first
            | (go_at_call 26; (with_reducible refine (HOo.out _ HQ2.out).mono ?_); rintro e wn ⟨rfl, hqn⟩; have HQ3 := Lib.hid hqn; clear hqn)
            | (go_at_call 40; (with_reducible refine (HAr.out _ HQ3.out).mono ?_); rintro e wn ⟨rfl, hqn⟩; have HQ4 := Lib.hid hqn; clear hqn))
          exact ⟨⟨i + 1, by go_num, by omega, HTR.out _ HQ4.out⟩, by simp [intOf]; omega⟩
        | false =>
          have hy0 := (HL2.out rfl rfl).symm
          have hz0 := (HM2.out rfl rfl).symm
          injection hy0 with y1 y2 y3 y4 y5
          injection hz0 with z1 z2 z3 z4 z5
          subst y1 y2 y3 y4 y5 z1 z2 z3 z4 z5
          clear HL2 HM2 HM3
          go_upto_region 15 with fail
          go_cut [109] (fun v wx => v = .bool false ∧ Q wx)
          case first =>
            first
            | (go_region_held3 (fun X => X.cell? ⟨B, 0, none⟩ = some (.int .u8 xb) ∧ X.cell? ⟨B, 1, none⟩ = some (.bool xg) ∧ X.cell? ⟨B, 2, none⟩ = some (.bool false) ∧ X.cell? ⟨B, 3, none⟩ = some (.int .u8 xl) ∧ X.cell? ⟨B, 4, none⟩ = some (.int .u8 xc) ∧ Q X)
                (with_reducible (first | assumption | exact HS.out _ (by assumption) | exact HS.out _ (HDR.out _ (by assumption)) | exact HS.out _ (HDR.out _ HQ1.out) | exact HS.out _ HQ1.out))
                (first
                        | (go_at_call 40; (with_reducible refine (HAq.out _ (OFS.out _ (by assumption))).mono ?_); rintro e wn ⟨rfl, hqn⟩)
                        | (go_at_call 40; (with_reducible refine (HAr.out _ (OFS.out _ (by assumption))).mono ?_); rintro e wn ⟨rfl, hqn⟩)
                        | (go_at_call 26; (with_reducible refine (HOo.out _ (OFS.out _ (by assumption))).mono ?_); rintro e wn ⟨rfl, hqn⟩)))
            | fail
            all_goals
              go_wp2_with fail
              go_meet
              first
                | exact ⟨rfl, by assumption⟩
                | exact ⟨rfl, HDR.out _ (by assumption)⟩
          case rest =>
          obtain ⟨rfl, hcu⟩ := hcut
          have HQ2 := Lib.hid hcu
          clear hcu
          go_wp2_with (first
            | (go_at_call 26; (with_reducible refine (HOo.out _ HQ2.out).mono ?_); rintro e wn ⟨rfl, hqn⟩; have HQ3 := Lib.hid hqn; clear hqn)
            | (go_at_call 40; (with_reducible refine (HAr.out _ HQ3.out).mono ?_); rintro e wn ⟨rfl, hqn⟩; have HQ4 := Lib.hid hqn; clear hqn))
          exact ⟨⟨i + 1, by go_num, by omega, HTR.out _ HQ3.out⟩, by simp [intOf]; omega⟩
    · obtain rfl : n = i := by omega
      have hii : ¬ (n : Int) < (n : Int) := by omega
      obtain ⟨rn1, rn2⟩ := rest_num (L := L) (a := a)
      rw [← HNN.out, ← HOA.out] at rn1
      rw [← HOA.out] at rn2
      have HR2 := Lib.hid rn2
      have HOPN := Lib.hid (show ∀ X, Wz3 w r c b g b2 g2 b3 g3 0 0 u L (restL L a) (openL L) X → Calls Try.prog 26 #[.pointer (some ⟨b, 0, none⟩), .int .i64 a] X fun e Y => e = .returned (.bool oa) ∧ Below X.heap.size X Y from fun X hX => by rw [HOA.out]; exact open_any hX.p.pl a HBO.out)
      clear rn2
      have e2 : ∀ w : World, (binOp .neq 45 (.agg #[.int .u8 0, .bool false, .bool false, .int .u8 0, .int .u8 0]) (.agg #[.int .u8 0, .bool false, .bool false, .int .u8 0, .int .u8 0])).run Try.prog w = .ok (.bool false) w := fun w => by kernel_rfl
      have htail : ∀ X, Wz3 w r c b g b2 g2 b3 g3 0 0 u L (restL L a) (openL L) X → True := fun _ _ => trivial
      cases oa with
      | true =>
        have hNp : (0 : Int) < N := by simpa using rn1.symm
        have hat := HR2.out rfl
        have HAT := Lib.hid hat.symm
        clear rn1 hat
        go_wp2_with (first
          | (go_at_call 26; (with_reducible refine (HOPN.out _ HQ.out).mono ?_); rintro e wa ⟨rfl, hba⟩; have HQa := Lib.hid (HQ.out.below hba); clear hba)
          | (go_at_call 40; (with_reducible refine (at_is HQa.out.q.pl HAT.out).mono ?_); rintro e wb ⟨rfl, hbb⟩; simp only [Cl.val, c0]; have HQb := Lib.hid (HQa.out.below hbb); clear hbb)
          | (go_at_call 36; refine (clone_any HC1.out.r.pl).mono ?_; rintro e w6 ⟨b5, g5, rfl, hp6, hb6, lb5, lg5⟩; have HF := Lib.hid (Wz4.made (b0 := b) (g0 := g) (c0 := 0) (L0 := L) HQb.out HC0.out.1 HC0.out.2.1 HC0.out.2.2.1 HC0.out.2.2.2 hp6 hb6 lb5 lg5); clear hp6 hb6 lb5 lg5)
          | (go_at_call 36; refine (clone_any HQb.out.q.pl).mono ?_; rintro e w5 ⟨b4, g4, rfl, hp5, hb5, lb4, lg4⟩; have HC1 := Lib.hid (HQb.out.below hb5); have HC0 := Lib.hid (And.intro hp5 (And.intro hb5 (And.intro lb4 lg4))); clear hp5 hb5 lb4 lg4)
          | (go_at_call 37; refine (rest_any HF.out.t.r.pl a HBQ.out).mono ?_; rw [rest_twice]; rintro e w7 ⟨rfl, hp7, ht7⟩; have HF7 := Lib.hid (HF.out.three hp7 (ht7.mono fun k hk => .inr hk)); clear hp7 ht7)
          | (go_at_call 38; refine (wopen_any HF7.out.s.pl HBR.out).mono ?_; rw [open_twice, curO_twice HU.out]; rintro e w8 ⟨rfl, hp8, ht8⟩; have HF8 := Lib.hid (HF7.out.four hp8 ht8); clear hp8 ht8)
          | (go_at_call 42; (with_reducible refine (same_any HF9.out.s.pl HF9.out.t.q.pl).mono ?_); rintro e wb ⟨he, hbb⟩; rw [sameZ_self] at he; subst he; have HFa := Lib.hid (HF9.out.below hbb); clear hbb)
          | (go_at_call 42; (with_reducible refine (same_any HF8.out.t.r.pl HF8.out.t.p.pl).mono ?_); rintro e wc ⟨he, hbc⟩; rw [sameZ_self] at he; subst he; have HF9 := Lib.hid (HF8.out.below hbc); clear hbc))
        go_ret
        exact ⟨rfl, HFa.out.t.old⟩
      | false =>
        have hNp : ¬ (0 : Int) < N := by simpa using rn1.symm
        clear rn1
        go_wp2_with (first
          | (go_at_call 26; (with_reducible refine (HOPN.out _ HQ.out).mono ?_); rintro e wa ⟨rfl, hba⟩; have HQa := Lib.hid (HQ.out.below hba); clear hba)
          | (go_at_call 36; refine (clone_any HC1.out.r.pl).mono ?_; rintro e w6 ⟨b5, g5, rfl, hp6, hb6, lb5, lg5⟩; have HF := Lib.hid (Wz4.made (b0 := b) (g0 := g) (c0 := 0) (L0 := L) HQa.out HC0.out.1 HC0.out.2.1 HC0.out.2.2.1 HC0.out.2.2.2 hp6 hb6 lb5 lg5); clear hp6 hb6 lb5 lg5)
          | (go_at_call 36; refine (clone_any HQa.out.q.pl).mono ?_; rintro e w5 ⟨b4, g4, rfl, hp5, hb5, lb4, lg4⟩; have HC1 := Lib.hid (HQa.out.below hb5); have HC0 := Lib.hid (And.intro hp5 (And.intro hb5 (And.intro lb4 lg4))); clear hp5 hb5 lb4 lg4)
          | (go_at_call 37; refine (rest_any HF.out.t.r.pl a HBQ.out).mono ?_; rw [rest_twice]; rintro e w7 ⟨rfl, hp7, ht7⟩; have HF7 := Lib.hid (HF.out.three hp7 (ht7.mono fun k hk => .inr hk)); clear hp7 ht7)
          | (go_at_call 38; refine (wopen_any HF7.out.s.pl HBR.out).mono ?_; rw [open_twice, curO_twice HU.out]; rintro e w8 ⟨rfl, hp8, ht8⟩; have HF8 := Lib.hid (HF7.out.four hp8 ht8); clear hp8 ht8)
          | (go_at_call 42; (with_reducible refine (same_any HF9.out.s.pl HF9.out.t.q.pl).mono ?_); rintro e wb ⟨he, hbb⟩; rw [sameZ_self] at he; subst he; have HFa := Lib.hid (HF9.out.below hbb); clear hbb)
          | (go_at_call 42; (with_reducible refine (same_any HF8.out.t.r.pl HF8.out.t.p.pl).mono ?_); rintro e wc ⟨he, hbc⟩; rw [sameZ_self] at he; subst he; have HF9 := Lib.hid (HF8.out.below hbc); clear hbc))
        go_ret
        exact ⟨rfl, HFa.out.t.old⟩
end Go.Proofs.Ytgjhboikfbafcaa.Pl
