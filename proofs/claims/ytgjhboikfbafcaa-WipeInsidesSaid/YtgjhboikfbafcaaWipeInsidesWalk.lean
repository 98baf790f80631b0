/-
  The walk of WipeInsides.
-/
import Derived.Test.YtgjhboikfbafcaaWpS
import Derived.Test.YtgjhboikfbafcaaWmP
import Derived.Test.YtgjhboikfbafcaaMaskA
import Derived.BigQuiet
namespace Go.Proofs.Ytgjhboikfbafcaa.Pl
open Go.RowKit Go.Shelf Base
set_option linter.unusedVariables false
set_option linter.unusedSimpArgs false

theorem of_s {L : List Cl} {a : Int} (h : isF L a = true) : (ofF L a).s = befL L a := by
  have hb : befL L a ≠ -1 := by unfold isF at h; simpa using h
  unfold ofF; rw [if_neg hb]; rfl
theorem isF_any {L : List Cl} {a i : Int} (h : isF L a = true) (ha0 : 0 ≤ a) (ha1 : a < L.length) (h0 : 0 ≤ i) (h1 : i < L.length) : isF L i = true := by
  have hb : befL L a ≠ -1 := by unfold isF at h; simpa using h
  have hne : allL L ≠ [] := fun e => hb ((bef_none ha0 ha1).2 e)
  have : befL L i ≠ -1 := fun e => hne ((bef_none h0 h1).1 e)
  unfold isF; simpa using this
theorem wrap_i {x : Int} (h0 : -9223372036854775808 ≤ x) (h1 : x ≤ 9223372036854775807) : IntKind.i64.wrap x = x := by
  have hs : IntKind.i64.signed = true := rfl
  simp [IntKind.wrap, IntKind.bits, hs]
  split <;> omega
theorem off_rem {n : Nat} {s i : Int} (hs0 : 0 ≤ s) (hs1 : s < n) (h0 : 0 ≤ i) (h1 : i < n) : (i - s + n).tmod (n : Int) = offL n s i ∧ 0 ≤ offL n s i ∧ offL n s i < n := by
  have hn : (n : Int) ≠ 0 := by omega
  refine ⟨by unfold offL; exact Int.tmod_eq_emod_of_nonneg (by omega), Int.emod_nonneg _ hn, Int.emod_lt_of_pos _ (by omega)⟩
theorem wz_len {w X : World} {b g : Nat} {r c cur : Int} {L : List Cl} {n : Nat} (h : Wz w b g r c cur L X) (hn : L.length = n) (m : Nat) : Calls Try.prog 39 #[.pointer (some ⟨b, 0, none⟩)] (X.drewN m) fun e w' => e = .returned (.int .i64 n) ∧ ∃ k, w' = X.drewN k := by
  have := len_any (h.pl.drewN m)
  rw [hn] at this
  exact this.mono fun e w' ⟨h1, h2⟩ => ⟨h1, m, h2.symm⟩
set_option maxRecDepth 100000 in
set_option maxHeartbeats 8000000 in
theorem wipeInsides_law {w : World} (r c : Int) {p1 p2 p3 : Prop} (_ : p1) (_ : p2) (v0 : Value) (L0 : List Cl) (hL : ClsAt w v0 L0 ∧ L0.length ≤ maxLen ∧ ∀ x ∈ L0, x.Ok) (a : Int) (_ : p3) :
    Calls Try.prog 6 #[.agg #[.int .i64 r, .int .i64 c], v0, .int .i64 a] w fun e W => e = .returned (.bool true) ∧ Below w.heap.size w W := by
  obtain ⟨hv, hm, hok⟩ := hL
  obtain ⟨a0, cap0, hv0, _⟩ := id hv
  subst hv0
  obtain ⟨m0, hm0⟩ : ∃ m0, m0 = L0.length := ⟨_, rfl⟩
  have HV := Lib.hid hv
  have HM := Lib.hid hm
  have HOK := Lib.hid hok
  rw [← hm0] at HV hm ⊢
  have HM0 := Lib.hid hm0
  obtain ⟨W0, hW0⟩ : ∃ W0, W0 = w.alloc (.cells #[.int .i64 r, .int .i64 c] 23) := ⟨_, rfl⟩
  have hn0 : W0.heap[w.heap.size]? = some (.cells #[.int .i64 r, .int .i64 c] 23 (0, 0)) := by rw [hW0]; exact heap_alloc_new w _
  have HN0 := Lib.hid hn0
  have B0 := Lib.hid (show Below w.heap.size w W0 by rw [hW0]; exact below_alloc w _)
  have HW0 := Lib.hid hW0.symm
  clear hv hok hm0 hW0 hn0 hm
  go_enter Try.func6, Try.ntmps6
  go_wp2_with fail
  rw [HW0.out]
  go_wp2_with (go_at_call 34; (with_reducible refine (wp_alive W0).mono ?_); rintro e w1 ⟨rfl, hb1⟩
               have n1 := (hb1.block _ (lt_of_block HN0.out)).trans HN0.out
               have q0 : w1.cell? ⟨w.heap.size, 0, none⟩ = some (.int .i64 r) := by simp [World.cell?, n1]
               have q1 : w1.cell? ⟨w.heap.size, 1, none⟩ = some (.int .i64 c) := by simp [World.cell?, n1]
               have B1 := Lib.hid (B0.out.trans (hb1.mono B0.out.size)); clear hb1 n1)
  go_at_call 35
  refine (made_any r c (.slice a0 m0 cap0) L0 w1 (HV.out.below (B1.out.mono (Nat.le_refl _))) HM.out).mono ?_
  rintro e w2 (⟨hno, pv, r', c', a', l', k', rfl, hb2⟩ | ⟨b, g, gx, n, hcn, hn1, hn2, rfl, hpl, hrow, hb, hg, hgx, hgb, hgg, hb2⟩)
  · unfold xV
    go_wp2_with fail
    go_ret
    exact ⟨rfl, B1.out.trans ((hb2.mono B1.out.size).alloc (by have := B1.out.size; have := hb2.size; omega) _)⟩
  unfold xV
  obtain ⟨L, hL⟩ : ∃ L, L = mL n L0 L0.length := ⟨_, rfl⟩
  rw [← hL] at hpl hrow
  have hlen : L.length = n := by rw [hL, mL_length]
  have hbo : BoL L := bo_wp (fun x hx => by rw [hL] at hx; exact (mL_ok n HOK.out _ x hx).1)
  have hs1 := B1.out.size
  have HP := Lib.hid (show Wz w b g r c 0 L (w2.alloc (.cells #[.int .i64 r, .int .i64 c, .slice (some ⟨gx, 0, none⟩) n n, .int .i64 0] 28)) from ⟨hpl.alloc _, by omega, by omega⟩)
  have HO := Lib.hid ((B1.out.trans (hb2.mono hs1)).alloc (by have := hb2.size; omega) (.cells #[.int .i64 r, .int .i64 c, .slice (some ⟨gx, 0, none⟩) n n, .int .i64 0] 28))
  have HBO := Lib.hid hbo
  have HLN := Lib.hid hlen
  clear hpl hrow hb2 hL hcn q0 q1 hb hg hgx hgb hgg hlen hbo hs1
  go_upto_region 6 with fail
  obtain ⟨w3, hw3⟩ : ∃ w3, w3 = w2.alloc (.cells #[.int .i64 r, .int .i64 c, .slice (some ⟨gx, 0, none⟩) n n, .int .i64 0] 28) := ⟨_, rfl⟩
  rw [← hw3] at HP HO ⊢
  clear hw3
  obtain ⟨j1, hand1, _, _⟩ := Go.Proofs.Ytgjhboikfbafcaa.Mask.mask_nat a 255 8 256 (by omega) (by decide) (by decide)
  obtain ⟨p, hp⟩ : ∃ p, p = (j1 : Int) % (n : Int) := ⟨_, rfl⟩
  have hp0 : 0 ≤ p := by rw [hp]; exact Int.emod_nonneg _ (by omega)
  have hp1 : p < (n : Int) := by rw [hp]; exact Int.emod_lt_of_pos _ (by omega)
  have hand1' : bits .and .i64 a 255 = (j1 : Int) := hand1
  have htm1 : (bits .and .i64 a 255).tmod (n : Int) = p := by rw [hand1', Int.tmod_eq_emod_of_nonneg (by omega), hp]
  have hnz : ¬ (n : Int) = 0 := by omega
  have hwp : IntKind.i64.wrap p = p := wrap_i (by omega) (by omega)
  clear hand1 hand1' hp
  obtain ⟨iv, hiv⟩ : ∃ iv, iv = isF L p := ⟨_, rfl⟩
  obtain ⟨⟨fs, fk, fa⟩, hf⟩ : ∃ f, f = ofF L p := ⟨_, rfl⟩
  have HOF := Lib.hid (of_any HP.out.pl p HBO.out)
  rw [← hiv, ← hf] at HOF
  simp only [Fd.val] at HOF
  have HIV := Lib.hid hiv
  have HF := Lib.hid hf
  have HLE := Lib.hid (len_any HP.out.pl)
  rw [HLN.out] at HLE
  clear hiv hf
  cases iv with
  | false =>
    go_wp2_with (first
      | (go_at_call 39; (with_reducible refine HLE.out.mono ?_); rintro e wl ⟨rfl, rfl⟩)
      | (go_at_call 21; (with_reducible refine HOF.out.mono ?_); rintro e wo ⟨rfl, hbo⟩; have HO1 := Lib.hid ((HO.out.trans (hbo.mono HO.out.size)).alloc (by have := HO.out.size; have := hbo.size; omega) (.cells #[.int .i64 fs, .int .i64 fk, .int .u8 fa] 39)); clear hbo))
    go_ret
    exact ⟨rfl, HO1.out⟩
  | true =>
    have hss := of_s HIV.out.symm
    rw [← HF.out] at hss
    simp only at hss
    have hst : (atL L fs).st = true := by rw [hss]; exact bef_st_true (by have := HIV.out; unfold isF at this; simpa using this.symm)
    obtain ⟨hs0, hs1⟩ := st_range hst
    rw [HLN.out] at hs1
    have hkb : 0 ≤ fk ∧ fk < n := by
      have e : (⟨fs, fk, fa⟩ : Fd) = begF L (befL L p) := by
        rw [HF.out]; unfold ofF; rw [if_neg (by have := HIV.out; unfold isF at this; simpa using this.symm)]
      have h2 := begF_bd (L := L) (by rw [HLN.out]; omega) (befL L p)
      rw [← e, HLN.out] at h2
      exact h2
    obtain ⟨hop1, hop2, hop3⟩ := off_rem (n := n) hs0 hs1 hp0 hp1
    obtain ⟨ox, hox⟩ : ∃ ox, ox = offL n fs p := ⟨_, rfl⟩
    rw [← hox] at hop1 hop2 hop3
    have HSS := Lib.hid hss
    have HOX := Lib.hid hox
    clear hss hst hox
    have hfk2 : fk ≤ 9223372036854775807 := by omega
    go_upto_region 8 with (first
      | (go_at_call 39; (with_reducible refine HLE.out.mono ?_); rintro e wl ⟨rfl, rfl⟩)
      | (go_at_call 21; (with_reducible refine HOF.out.mono ?_); rintro e wo ⟨rfl, hbo⟩))
    obtain ⟨F, hF⟩ : ∃ F, F = wo.heap.size := ⟨_, rfl⟩
    have hn2 := heap_alloc_new wo (.cells #[.int .i64 fs, .int .i64 fk, .int .u8 fa] 39)
    have HP2 := Lib.hid ((HP.out.below hbo).below (below_alloc wo (.cells #[.int .i64 fs, .int .i64 fk, .int .u8 fa] 39)))
    have HO2 := Lib.hid ((HO.out.trans (hbo.mono HO.out.size)).alloc (by have := HO.out.size; have := hbo.size; omega) (.cells #[.int .i64 fs, .int .i64 fk, .int .u8 fa] 39))
    have hFw : w.heap.size ≤ F := by have := HO.out.size; have := hbo.size; omega
    obtain ⟨X2, hX2⟩ : ∃ X2, X2 = wo.alloc (.cells #[.int .i64 fs, .int .i64 fk, .int .u8 fa] 39) := ⟨_, rfl⟩
    rw [← hF, ← hX2] at hn2
    rw [← hX2] at HP2 HO2
    rw [← hF, ← hX2]
    have HN2 := Lib.hid hn2
    clear hbo hn2 hF hX2
    go_wp2_with (first
      | (go_at_call 36; refine (clone_any HC1.out.pl).mono ?_; rintro e w6 ⟨b3, g3, rfl, hp6, hb6, lb3, lg3⟩; have HX := Lib.hid (Wz3.made HP2.out HO2.out HC0.out.1 HC0.out.2.1 HC0.out.2.2.1 HC0.out.2.2.2 hp6 hb6 lb3 lg3)
         have hn6 := (hb6.block F (lt_of_block HN5.out)).trans HN5.out
         have HN6 := Lib.hid hn6
         have hfar := lt_of_block HN5.out
         have k0 : w6.cell? ⟨F, 0, none⟩ = some (.int .i64 fs) := (by simp [World.cell?, hn6])
         have k1 : w6.cell? ⟨F, 1, none⟩ = some (.int .i64 fk) := (by simp [World.cell?, hn6])
         have k2 : w6.cell? ⟨F, 2, none⟩ = some (.int .u8 fa) := (by simp [World.cell?, hn6])
         clear hp6 hb6 lb3 hn6)
      | (go_at_call 36; refine (clone_any HP2.out.pl).mono ?_; rintro e w5 ⟨b2, g2, rfl, hp5, hb5, lb2, lg2⟩; have HC1 := Lib.hid (HP2.out.below hb5); have HC0 := Lib.hid (And.intro hp5 (And.intro hb5 (And.intro lb2 lg2))); have HN5 := Lib.hid ((hb5.block F (lt_of_block HN2.out)).trans HN2.out); have hlF := lt_of_block HN2.out; clear hp5 hb5 lb2)
      | (go_at_call 43; refine (winside_any HX.out.q.pl ⟨fs, fk, fa⟩ hfk2).mono ?_; rw [HLN.out]; rintro e w7 ⟨rfl, hp7, ht7⟩; have HX7 := Lib.hid (HX.out.two hp7 (ht7.mono fun k hk => .inr hk)); have HN7 := Lib.hid ((ht7.block F (lt_of_block HN6.out) (by unfold At; omega)).trans HN6.out); clear hp7 ht7 k0 k1 k2)
      | (go_at_call 37; refine (rest_any HX7.out.r.pl p HBO.out).mono ?_; rintro e w8 ⟨rfl, hp8, ht8⟩; have HX8 := Lib.hid (HX7.out.three hp8 (ht8.mono fun k hk => .inr hk)); have HN8 := Lib.hid ((ht8.block F (lt_of_block HN7.out) (by unfold At; omega)).trans HN7.out); clear hp8 ht8; have HLE8 := Lib.hid (len_any HX8.out.p.pl); rw [HLN.out] at HLE8)
      | (go_at_call 39; (with_reducible refine HLE8.out.mono ?_); rintro e w9 ⟨rfl, rfl⟩))
    clear htm1 hnz hwp HLE HLE8 HX HX7 HN2 HN5 HN6 HN7 HP2 HO2 HC0 HC1 HP HO HOF
    obtain ⟨N, hN⟩ : ∃ N, N = restN L p := ⟨_, rfl⟩
    obtain ⟨oa, hoa⟩ : ∃ oa, oa = opnL L p := ⟨_, rfl⟩
    obtain ⟨kn, hkn⟩ : ∃ kn, kn = (insP n ⟨fs, fk, fa⟩).length := ⟨_, rfl⟩
    rw [← hN, ← hoa, ← hkn]
    have HLV := Lib.hid (fun (i : Int) (h0 : 0 ≤ i) (h1 : i < n) => inside_leaves (L := L) (a := p) (i := i) hp0 (by rw [HLN.out]; exact hp1) HIV.out.symm h0 (by rw [HLN.out]; exact h1))
    rw [← hoa, HLN.out, ← HF.out, ← HSS.out, ← HOX.out, ← hN, ← hkn] at HLV
    have HOA := Lib.hid hoa
    have hl6 := HLV.out p hp0 hp1
    obtain ⟨l1, l2, l3, l4, l5, hkf, hNf⟩ := hl6
    clear l1 l2 l3 l4 l5
    simp only at hkf hNf
    have HKF := Lib.hid hkf
    have HNF := Lib.hid hNf
    obtain ⟨Q, hQd⟩ : ∃ Q : World → Prop, Q = fun X => Wz3 w r c b g b2 g2 b3 g3 0 0 0 L (fillL L (insP n ⟨fs, fk, fa⟩) c0) (restL L p) X ∧ X.heap[F]? = some (.cells #[.int .i64 fs, .int .i64 fk, .int .u8 fa] 39 (0, 0)) := ⟨_, rfl⟩
    have HQ8 := Lib.hid (show Q w8 by rw [hQd]; exact ⟨HX8.out, HN8.out⟩)
    have HBL := Lib.hid (show ∀ X Y, Q X → Below X.heap.size X Y → Q Y by
      intro X Y hX t; rw [hQd] at hX ⊢; exact ⟨hX.1.below t, (t.block F (lt_of_block hX.2)).trans hX.2⟩)
    have HDN := Lib.hid (show ∀ X m, Q X → Q (X.drewN m) by intro X m hX; rw [hQd] at hX ⊢; exact ⟨hX.1.drewN m, hX.2⟩)
    have HTR := Lib.hid (show ∀ X, Q X → Wz3 w r c b g b2 g2 b3 g3 0 0 0 L (fillL L (insP n ⟨fs, fk, fa⟩) c0) (restL L p) X by intro X hX; rw [hQd] at hX; exact hX.1)
    have HS := Lib.hid (show ∀ X, Q X → X.cell? ⟨F, 0, none⟩ = some (.int .i64 fs) ∧ X.cell? ⟨F, 1, none⟩ = some (.int .i64 fk) ∧ X.cell? ⟨F, 2, none⟩ = some (.int .u8 fa) by
      intro X hX
      rw [hQd] at hX
      exact ⟨by simp [World.cell?, hX.2], by simp [World.cell?, hX.2], by simp [World.cell?, hX.2]⟩)
    have HLNq := Lib.hid (show ∀ X m, Q X → Calls Try.prog 39 #[.pointer (some ⟨b, 0, none⟩)] (X.drewN m) fun e w' => e = .returned (.int .i64 n) ∧ ∃ k, w' = X.drewN k from fun X m hX => wz_len (HTR.out X hX).p HLN.out m)
    clear hN hoa hkn hkf hNf hQd HX8 HN8
    have hnz : ¬ (n : Int) = 0 := by omega
    have hneq : ∀ (w : World) (xb : Int) (xg xs : Bool) (xl xc : Int), (binOp .neq 45 (.agg #[.int .u8 xb, .bool xg, .bool xs, .int .u8 xl, .int .u8 xc]) (.agg #[.int .u8 xb, .bool xg, .bool xs, .int .u8 xl, .int .u8 xc])).run Try.prog w = .ok (.bool false) w := fun w xb xg xs xl xc => by
      have := run_neq_cl w ⟨xb, xg, xs, xl, xc⟩ ⟨xb, xg, xs, xl, xc⟩
      rw [decide_eq_true rfl] at this
      exact this
    go_loopw [61] (fun u wr => ∃ i : Nat, u = .int .i64 i ∧ i ≤ n ∧ Q wr) (fun u _ => n - (intOf u).toNat)
    case atStart => exact ⟨0, rfl, Nat.zero_le _, HQ8.out⟩
    case round =>
      obtain ⟨i, rfl, hi, hq⟩ := hrel
      have HQ := Lib.hid hq
      clear hq HQ8
      by_cases hi1 : i < n
      · have hii : (i : Int) < (n : Int) := by omega
        obtain ⟨l1, l2, l3, l4, l5, l6, l7⟩ := HLV.out (i : Int) (by omega) hii
        clear l6 l7
        have hfi := isF_any HIV.out.symm hp0 (by rw [HLN.out]; exact hp1) (i := (i : Int)) (by omega) (by rw [HLN.out]; exact hii)
        have hgs := of_s hfi
        obtain ⟨ho1, ho2, ho3⟩ := off_rem (n := n) hs0 hs1 (i := (i : Int)) (by omega) hii
        obtain ⟨oi, hoi⟩ : ∃ oi, oi = offL n fs (i : Int) := ⟨_, rfl⟩
        rw [← hoi] at ho1 ho2 ho3 l3 l5
        obtain ⟨⟨gs, gk, ga⟩, hg⟩ : ∃ g, g = ofF L (i : Int) := ⟨_, rfl⟩
        rw [← hg] at hgs
        simp only at hgs
        rw [← hgs] at l1 l2 l3 l5
        obtain ⟨x, hx⟩ : ∃ x, x = atL L (i : Int) := ⟨_, rfl⟩
        obtain ⟨y, hy⟩ : ∃ y, y = atL (fillL L (insP n ⟨fs, fk, fa⟩) c0) (i : Int) := ⟨_, rfl⟩
        obtain ⟨z, hz⟩ : ∃ z, z = atL (restL L p) (i : Int) := ⟨_, rfl⟩
        rw [← hx] at l2 l4 l5
        rw [← hy] at l1 l2
        rw [← hz] at l3 l4 l5
        obtain ⟨xb, xg, xs, xl, xc⟩ := x
        obtain ⟨yb, yg, ys, yl, yc⟩ := y
        obtain ⟨zb, zg, zs, zl, zc⟩ := z
        have HOFi := Lib.hid (show ∀ X, Q X → Calls Try.prog 21 #[.pointer (some ⟨b, 0, none⟩), .int .i64 i] X fun e Y => e = .returned (.tuple #[.agg #[.int .i64 gs, .int .i64 gk, .int .u8 ga], .bool true]) ∧ Q Y from fun X hX => (of_any (HTR.out X hX).p.pl (i : Int) HBO.out).mono fun e Y ⟨h1, h2⟩ => ⟨by rw [h1, hfi, ← hg], HBL.out X Y hX h2⟩)
        have HAp := Lib.hid (show ∀ X, Q X → Calls Try.prog 40 #[.pointer (some ⟨b, 0, none⟩), .int .i64 i] X fun e Y => e = .returned (.agg #[.int .u8 xb, .bool xg, .bool xs, .int .u8 xl, .int .u8 xc]) ∧ Q Y from fun X hX => (at_is (HTR.out X hX).p.pl hx).mono fun e Y ⟨h1, h2⟩ => ⟨h1, HBL.out X Y hX h2⟩)
        have HAq := Lib.hid (show ∀ X, Q X → Calls Try.prog 40 #[.pointer (some ⟨b2, 0, none⟩), .int .i64 i] X fun e Y => e = .returned (.agg #[.int .u8 yb, .bool yg, .bool ys, .int .u8 yl, .int .u8 yc]) ∧ Q Y from fun X hX => (at_is (HTR.out X hX).q.pl hy).mono fun e Y ⟨h1, h2⟩ => ⟨h1, HBL.out X Y hX h2⟩)
        have HAr := Lib.hid (show ∀ X, Q X → Calls Try.prog 40 #[.pointer (some ⟨b3, 0, none⟩), .int .i64 i] X fun e Y => e = .returned (.agg #[.int .u8 zb, .bool zg, .bool zs, .int .u8 zl, .int .u8 zc]) ∧ Q Y from fun X hX => (at_is (HTR.out X hX).r.pl hz).mono fun e Y ⟨h1, h2⟩ => ⟨h1, HBL.out X Y hX h2⟩)
        have HL1 := Lib.hid l1
        have HL2 := Lib.hid l2
        have HL3 := Lib.hid l3
        have HL4 := Lib.hid l4
        have HL5 := Lib.hid l5
        clear l1 l2 l3 l4 l5 hx hy hz hg hgs hfi hoi
        have hw1 : IntKind.i64.wrap ((i : Int) - fs) = (i : Int) - fs := wrap_i (by omega) (by omega)
        have hw2 : IntKind.i64.wrap ((i : Int) - fs + (n : Int)) = (i : Int) - fs + (n : Int) := wrap_i (by omega) (by omega)
        have hw3 : IntKind.i64.wrap (p - fs) = p - fs := wrap_i (by omega) (by omega)
        have hw4 : IntKind.i64.wrap (p - fs + (n : Int)) = p - fs + (n : Int) := wrap_i (by omega) (by omega)
        have hw5 : IntKind.i64.wrap oi = oi := wrap_i (by omega) (by omega)
        have hw6 : IntKind.i64.wrap ox = ox := wrap_i (by omega) (by omega)
        go_upto_region 17 with (go_at_call 21; (with_reducible refine (HOFi.out _ HQ.out).mono ?_); rintro e wo ⟨rfl, hqo⟩)
        have hn2 := heap_alloc_new wo (.cells #[.int .i64 gs, .int .i64 gk, .int .u8 ga] 39)
        have HQ1 := Lib.hid (HBL.out _ _ hqo (below_alloc wo (.cells #[.int .i64 gs, .int .i64 gk, .int .u8 ga] 39)))
        obtain ⟨X1, hX1⟩ : ∃ X1, X1 = wo.alloc (.cells #[.int .i64 gs, .int .i64 gk, .int .u8 ga] 39) := ⟨_, rfl⟩
        rw [← hX1] at HQ1 hn2 ⊢
        have g0 : X1.cell? ⟨wo.heap.size, 0, none⟩ = some (.int .i64 gs) := by simp [World.cell?, hn2]
        clear hX1 hqo hn2
        obtain ⟨k0, k1, k2⟩ := HS.out _ HQ1.out
        by_cases hm : gs = fs ∧ (i : Int) ≠ fs
        · have b1 : (gs == fs) = true := by simpa using hm.1
          have b2 : ((i : Int) != fs) = true := by simpa using hm.2
          have hyc := HL1.out hm
          unfold c0 at hyc
          injection hyc with y1 y2 y3 y4 y5
          subst y1 y2 y3 y4 y5
          by_cases hbh : ox ≤ oi
          · cases oa
            · have hao : (false = true) = False := by simp
              have hzx := (HL4.out rfl).symm
              injection hzx with z1 z2 z3 z4 z5
              subst z1 z2 z3 z4 z5
              clear HL1 HL2 HL3 HL4 HL5 hm
              go_upto_region 18 with fail
              go_quiet (first | (go_at_call 39; exact HLNq.out _ _ HQ1.out))
              have HQa := Lib.hid (HDN.out _ nq HQ1.out)
              have e0 := (HS.out _ HQa.out).1
              clear k0 k1 k2 g0
              go_upto_region 19 with fail
              go_upto_region 21 with (first
                | (go_at_call 40; (with_reducible refine (HAq.out _ HQa.out).mono ?_); rintro e wn ⟨rfl, hqn⟩; have HQa := Lib.hid hqn; clear hqn)
                | (go_at_call 40; (with_reducible refine (HAp.out _ HQa.out).mono ?_); rintro e wn ⟨rfl, hqn⟩; have HQa := Lib.hid hqn; clear hqn)
                | (go_at_call 40; (with_reducible refine (HAr.out _ HQa.out).mono ?_); rintro e wn ⟨rfl, hqn⟩; have HQa := Lib.hid hqn; have e0 := (HS.out _ HQa.out).1; clear hqn))
              have e0 := (HS.out _ HQa.out).1
              go_upto_region 23 with (first
                | (go_at_call 40; (with_reducible refine (HAq.out _ HQa.out).mono ?_); rintro e wn ⟨rfl, hqn⟩; have HQa := Lib.hid hqn; clear hqn)
                | (go_at_call 40; (with_reducible refine (HAp.out _ HQa.out).mono ?_); rintro e wn ⟨rfl, hqn⟩; have HQa := Lib.hid hqn; clear hqn)
                | (go_at_call 40; (with_reducible refine (HAr.out _ HQa.out).mono ?_); rintro e wn ⟨rfl, hqn⟩; have HQa := Lib.hid hqn; have e0 := (HS.out _ HQa.out).1; clear hqn))
              go_wp2
              go_roundw
              case rel => exact ⟨i + 1, by go_num, by omega, HQa.out⟩
              case measure => simp [intOf]; omega
            · have hao : True := trivial
              have hzc := HL3.out hm rfl hbh
              unfold c0 at hzc
              injection hzc with z1 z2 z3 z4 z5
              subst z1 z2 z3 z4 z5
              clear HL1 HL2 HL3 HL4 HL5 hm
              go_upto_region 18 with fail
              go_quiet (first | (go_at_call 39; exact HLNq.out _ _ HQ1.out))
              have HQa := Lib.hid (HDN.out _ nq HQ1.out)
              have e0 := (HS.out _ HQa.out).1
              clear k0 k1 k2 g0
              go_upto_region 19 with fail
              go_upto_region 21 with (first
                | (go_at_call 40; (with_reducible refine (HAq.out _ HQa.out).mono ?_); rintro e wn ⟨rfl, hqn⟩; have HQa := Lib.hid hqn; clear hqn)
                | (go_at_call 40; (with_reducible refine (HAp.out _ HQa.out).mono ?_); rintro e wn ⟨rfl, hqn⟩; have HQa := Lib.hid hqn; clear hqn)
                | (go_at_call 40; (with_reducible refine (HAr.out _ HQa.out).mono ?_); rintro e wn ⟨rfl, hqn⟩; have HQa := Lib.hid hqn; have e0 := (HS.out _ HQa.out).1; clear hqn))
              have e0 := (HS.out _ HQa.out).1
              go_upto_region 23 with (first
                | (go_at_call 40; (with_reducible refine (HAq.out _ HQa.out).mono ?_); rintro e wn ⟨rfl, hqn⟩; have HQa := Lib.hid hqn; clear hqn)
                | (go_at_call 40; (with_reducible refine (HAp.out _ HQa.out).mono ?_); rintro e wn ⟨rfl, hqn⟩; have HQa := Lib.hid hqn; clear hqn)
                | (go_at_call 40; (with_reducible refine (HAr.out _ HQa.out).mono ?_); rintro e wn ⟨rfl, hqn⟩; have HQa := Lib.hid hqn; have e0 := (HS.out _ HQa.out).1; clear hqn))
              go_wp2
              go_roundw
              case rel => exact ⟨i + 1, by go_num, by omega, HQa.out⟩
              case measure => simp [intOf]; omega
          · cases oa
            · have hao : True := trivial
              have hzx := (HL5.out (fun h => hbh h.2) hm.2).symm
              injection hzx with z1 z2 z3 z4 z5
              subst z1 z2 z3 z4 z5
              clear HL1 HL2 HL3 HL4 HL5 hm
              go_upto_region 18 with fail
              go_quiet (first | (go_at_call 39; exact HLNq.out _ _ HQ1.out))
              have HQa := Lib.hid (HDN.out _ nq HQ1.out)
              have e0 := (HS.out _ HQa.out).1
              clear k0 k1 k2 g0
              go_upto_region 19 with fail
              go_upto_region 21 with (first
                | (go_at_call 40; (with_reducible refine (HAq.out _ HQa.out).mono ?_); rintro e wn ⟨rfl, hqn⟩; have HQa := Lib.hid hqn; clear hqn)
                | (go_at_call 40; (with_reducible refine (HAp.out _ HQa.out).mono ?_); rintro e wn ⟨rfl, hqn⟩; have HQa := Lib.hid hqn; clear hqn)
                | (go_at_call 40; (with_reducible refine (HAr.out _ HQa.out).mono ?_); rintro e wn ⟨rfl, hqn⟩; have HQa := Lib.hid hqn; have e0 := (HS.out _ HQa.out).1; clear hqn))
              have e0 := (HS.out _ HQa.out).1
              go_upto_region 23 with (first
                | (go_at_call 40; (with_reducible refine (HAq.out _ HQa.out).mono ?_); rintro e wn ⟨rfl, hqn⟩; have HQa := Lib.hid hqn; clear hqn)
                | (go_at_call 40; (with_reducible refine (HAp.out _ HQa.out).mono ?_); rintro e wn ⟨rfl, hqn⟩; have HQa := Lib.hid hqn; clear hqn)
                | (go_at_call 40; (with_reducible refine (HAr.out _ HQa.out).mono ?_); rintro e wn ⟨rfl, hqn⟩; have HQa := Lib.hid hqn; have e0 := (HS.out _ HQa.out).1; clear hqn))
              go_wp2
              go_roundw
              case rel => exact ⟨i + 1, by go_num, by omega, HQa.out⟩
              case measure => simp [intOf]; omega
            · have hao : True := trivial
              have hzx := (HL5.out (fun h => hbh h.2) hm.2).symm
              injection hzx with z1 z2 z3 z4 z5
              subst z1 z2 z3 z4 z5
              clear HL1 HL2 HL3 HL4 HL5 hm
              go_upto_region 18 with fail
              go_quiet (first | (go_at_call 39; exact HLNq.out _ _ HQ1.out))
              have HQa := Lib.hid (HDN.out _ nq HQ1.out)
              have e0 := (HS.out _ HQa.out).1
              clear k0 k1 k2 g0
              go_upto_region 19 with fail
              go_upto_region 21 with (first
                | (go_at_call 40; (with_reducible refine (HAq.out _ HQa.out).mono ?_); rintro e wn ⟨rfl, hqn⟩; have HQa := Lib.hid hqn; clear hqn)
                | (go_at_call 40; (with_reducible refine (HAp.out _ HQa.out).mono ?_); rintro e wn ⟨rfl, hqn⟩; have HQa := Lib.hid hqn; clear hqn)
                | (go_at_call 40; (with_reducible refine (HAr.out _ HQa.out).mono ?_); rintro e wn ⟨rfl, hqn⟩; have HQa := Lib.hid hqn; have e0 := (HS.out _ HQa.out).1; clear hqn))
              have e0 := (HS.out _ HQa.out).1
              go_upto_region 23 with (first
                | (go_at_call 40; (with_reducible refine (HAq.out _ HQa.out).mono ?_); rintro e wn ⟨rfl, hqn⟩; have HQa := Lib.hid hqn; clear hqn)
                | (go_at_call 40; (with_reducible refine (HAp.out _ HQa.out).mono ?_); rintro e wn ⟨rfl, hqn⟩; have HQa := Lib.hid hqn; clear hqn)
                | (go_at_call 40; (with_reducible refine (HAr.out _ HQa.out).mono ?_); rintro e wn ⟨rfl, hqn⟩; have HQa := Lib.hid hqn; have e0 := (HS.out _ HQa.out).1; clear hqn))
              go_wp2
              go_roundw
              case rel => exact ⟨i + 1, by go_num, by omega, HQa.out⟩
              case measure => simp [intOf]; omega
        · have hyx := (HL2.out hm).symm
          injection hyx with y1 y2 y3 y4 y5
          subst y1 y2 y3 y4 y5
          by_cases hne : (i : Int) ≠ fs
          · have b1 : (gs == fs) = false := by simpa using fun e => hm ⟨e, hne⟩
            have b2 : ((i : Int) != fs) = true := by simpa using hne
            cases oa
            · have hao : True := trivial
              have hzx := (HL5.out (fun h => hm h.1) hne).symm
              injection hzx with z1 z2 z3 z4 z5
              subst z1 z2 z3 z4 z5
              clear HL1 HL2 HL3 HL4 HL5 hm
              go_upto_region 18 with fail
              go_quiet (first | (go_at_call 39; exact HLNq.out _ _ HQ1.out))
              have HQa := Lib.hid (HDN.out _ nq HQ1.out)
              have e0 := (HS.out _ HQa.out).1
              clear k0 k1 k2 g0
              go_upto_region 19 with fail
              go_upto_region 21 with (first
                | (go_at_call 40; (with_reducible refine (HAq.out _ HQa.out).mono ?_); rintro e wn ⟨rfl, hqn⟩; have HQa := Lib.hid hqn; clear hqn)
                | (go_at_call 40; (with_reducible refine (HAp.out _ HQa.out).mono ?_); rintro e wn ⟨rfl, hqn⟩; have HQa := Lib.hid hqn; clear hqn)
                | (go_at_call 40; (with_reducible refine (HAr.out _ HQa.out).mono ?_); rintro e wn ⟨rfl, hqn⟩; have HQa := Lib.hid hqn; have e0 := (HS.out _ HQa.out).1; clear hqn))
              have e0 := (HS.out _ HQa.out).1
              go_upto_region 23 with (first
                | (go_at_call 40; (with_reducible refine (HAq.out _ HQa.out).mono ?_); rintro e wn ⟨rfl, hqn⟩; have HQa := Lib.hid hqn; clear hqn)
                | (go_at_call 40; (with_reducible refine (HAp.out _ HQa.out).mono ?_); rintro e wn ⟨rfl, hqn⟩; have HQa := Lib.hid hqn; clear hqn)
                | (go_at_call 40; (with_reducible refine (HAr.out _ HQa.out).mono ?_); rintro e wn ⟨rfl, hqn⟩; have HQa := Lib.hid hqn; have e0 := (HS.out _ HQa.out).1; clear hqn))
              go_wp2
              go_roundw
              case rel => exact ⟨i + 1, by go_num, by omega, HQa.out⟩
              case measure => simp [intOf]; omega
            · have hao : True := trivial
              have hzx := (HL5.out (fun h => hm h.1) hne).symm
              injection hzx with z1 z2 z3 z4 z5
              subst z1 z2 z3 z4 z5
              clear HL1 HL2 HL3 HL4 HL5 hm
              go_upto_region 18 with fail
              go_quiet (first | (go_at_call 39; exact HLNq.out _ _ HQ1.out))
              have HQa := Lib.hid (HDN.out _ nq HQ1.out)
              have e0 := (HS.out _ HQa.out).1
              clear k0 k1 k2 g0
              go_upto_region 19 with fail
              go_upto_region 21 with (first
                | (go_at_call 40; (with_reducible refine (HAq.out _ HQa.out).mono ?_); rintro e wn ⟨rfl, hqn⟩; have HQa := Lib.hid hqn; clear hqn)
                | (go_at_call 40; (with_reducible refine (HAp.out _ HQa.out).mono ?_); rintro e wn ⟨rfl, hqn⟩; have HQa := Lib.hid hqn; clear hqn)
                | (go_at_call 40; (with_reducible refine (HAr.out _ HQa.out).mono ?_); rintro e wn ⟨rfl, hqn⟩; have HQa := Lib.hid hqn; have e0 := (HS.out _ HQa.out).1; clear hqn))
              have e0 := (HS.out _ HQa.out).1
              go_upto_region 23 with (first
                | (go_at_call 40; (with_reducible refine (HAq.out _ HQa.out).mono ?_); rintro e wn ⟨rfl, hqn⟩; have HQa := Lib.hid hqn; clear hqn)
                | (go_at_call 40; (with_reducible refine (HAp.out _ HQa.out).mono ?_); rintro e wn ⟨rfl, hqn⟩; have HQa := Lib.hid hqn; clear hqn)
                | (go_at_call 40; (with_reducible refine (HAr.out _ HQa.out).mono ?_); rintro e wn ⟨rfl, hqn⟩; have HQa := Lib.hid hqn; have e0 := (HS.out _ HQa.out).1; clear hqn))
              go_wp2
              go_roundw
              case rel => exact ⟨i + 1, by go_num, by omega, HQa.out⟩
              case measure => simp [intOf]; omega
          · have b2 : ((i : Int) != fs) = false := by simpa using hne
            have hb1 : (gs == fs) = true ∨ (gs == fs) = false := by cases (gs == fs) <;> simp
            rcases hb1 with hb1 | hb1
            · cases oa
              · have hao : True := trivial
                have hzx := (HL4.out rfl).symm
                injection hzx with z1 z2 z3 z4 z5
                subst z1 z2 z3 z4 z5
                clear hne
                clear HL1 HL2 HL3 HL4 HL5 hm
                go_upto_region 18 with fail
                go_quiet (first | (go_at_call 39; exact HLNq.out _ _ HQ1.out))
                have HQa := Lib.hid (HDN.out _ nq HQ1.out)
                have e0 := (HS.out _ HQa.out).1
                clear k0 k1 k2 g0
                go_upto_region 19 with fail
                go_upto_region 21 with (first
                  | (go_at_call 40; (with_reducible refine (HAq.out _ HQa.out).mono ?_); rintro e wn ⟨rfl, hqn⟩; have HQa := Lib.hid hqn; clear hqn)
                  | (go_at_call 40; (with_reducible refine (HAp.out _ HQa.out).mono ?_); rintro e wn ⟨rfl, hqn⟩; have HQa := Lib.hid hqn; clear hqn)
                  | (go_at_call 40; (with_reducible refine (HAr.out _ HQa.out).mono ?_); rintro e wn ⟨rfl, hqn⟩; have HQa := Lib.hid hqn; have e0 := (HS.out _ HQa.out).1; clear hqn))
                have e0 := (HS.out _ HQa.out).1
                go_upto_region 23 with (first
                  | (go_at_call 40; (with_reducible refine (HAq.out _ HQa.out).mono ?_); rintro e wn ⟨rfl, hqn⟩; have HQa := Lib.hid hqn; clear hqn)
                  | (go_at_call 40; (with_reducible refine (HAp.out _ HQa.out).mono ?_); rintro e wn ⟨rfl, hqn⟩; have HQa := Lib.hid hqn; clear hqn)
                  | (go_at_call 40; (with_reducible refine (HAr.out _ HQa.out).mono ?_); rintro e wn ⟨rfl, hqn⟩; have HQa := Lib.hid hqn; have e0 := (HS.out _ HQa.out).1; clear hqn))
                go_wp2
                go_roundw
                case rel => exact ⟨i + 1, by go_num, by omega, HQa.out⟩
                case measure => simp [intOf]; omega
              · have hao : True := trivial
                clear hne
                clear HL1 HL2 HL3 HL4 HL5 hm
                go_upto_region 18 with fail
                go_quiet (first | (go_at_call 39; exact HLNq.out _ _ HQ1.out))
                have HQa := Lib.hid (HDN.out _ nq HQ1.out)
                have e0 := (HS.out _ HQa.out).1
                clear k0 k1 k2 g0
                go_upto_region 19 with fail
                go_upto_region 21 with (first
                  | (go_at_call 40; (with_reducible refine (HAq.out _ HQa.out).mono ?_); rintro e wn ⟨rfl, hqn⟩; have HQa := Lib.hid hqn; clear hqn)
                  | (go_at_call 40; (with_reducible refine (HAp.out _ HQa.out).mono ?_); rintro e wn ⟨rfl, hqn⟩; have HQa := Lib.hid hqn; clear hqn)
                  | (go_at_call 40; (with_reducible refine (HAr.out _ HQa.out).mono ?_); rintro e wn ⟨rfl, hqn⟩; have HQa := Lib.hid hqn; have e0 := (HS.out _ HQa.out).1; clear hqn))
                have e0 := (HS.out _ HQa.out).1
                go_upto_region 23 with (first
                  | (go_at_call 40; (with_reducible refine (HAq.out _ HQa.out).mono ?_); rintro e wn ⟨rfl, hqn⟩; have HQa := Lib.hid hqn; clear hqn)
                  | (go_at_call 40; (with_reducible refine (HAp.out _ HQa.out).mono ?_); rintro e wn ⟨rfl, hqn⟩; have HQa := Lib.hid hqn; clear hqn)
                  | (go_at_call 40; (with_reducible refine (HAr.out _ HQa.out).mono ?_); rintro e wn ⟨rfl, hqn⟩; have HQa := Lib.hid hqn; have e0 := (HS.out _ HQa.out).1; clear hqn))
                go_wp2
                go_roundw
                case rel => exact ⟨i + 1, by go_num, by omega, HQa.out⟩
                case measure => simp [intOf]; omega
            · cases oa
              · have hao : True := trivial
                have hzx := (HL4.out rfl).symm
                injection hzx with z1 z2 z3 z4 z5
                subst z1 z2 z3 z4 z5
                clear hne
                clear HL1 HL2 HL3 HL4 HL5 hm
                go_upto_region 18 with fail
                go_quiet (first | (go_at_call 39; exact HLNq.out _ _ HQ1.out))
                have HQa := Lib.hid (HDN.out _ nq HQ1.out)
                have e0 := (HS.out _ HQa.out).1
                clear k0 k1 k2 g0
                go_upto_region 19 with fail
                go_upto_region 21 with (first
                  | (go_at_call 40; (with_reducible refine (HAq.out _ HQa.out).mono ?_); rintro e wn ⟨rfl, hqn⟩; have HQa := Lib.hid hqn; clear hqn)
                  | (go_at_call 40; (with_reducible refine (HAp.out _ HQa.out).mono ?_); rintro e wn ⟨rfl, hqn⟩; have HQa := Lib.hid hqn; clear hqn)
                  | (go_at_call 40; (with_reducible refine (HAr.out _ HQa.out).mono ?_); rintro e wn ⟨rfl, hqn⟩; have HQa := Lib.hid hqn; have e0 := (HS.out _ HQa.out).1; clear hqn))
                have e0 := (HS.out _ HQa.out).1
                go_upto_region 23 with (first
                  | (go_at_call 40; (with_reducible refine (HAq.out _ HQa.out).mono ?_); rintro e wn ⟨rfl, hqn⟩; have HQa := Lib.hid hqn; clear hqn)
                  | (go_at_call 40; (with_reducible refine (HAp.out _ HQa.out).mono ?_); rintro e wn ⟨rfl, hqn⟩; have HQa := Lib.hid hqn; clear hqn)
                  | (go_at_call 40; (with_reducible refine (HAr.out _ HQa.out).mono ?_); rintro e wn ⟨rfl, hqn⟩; have HQa := Lib.hid hqn; have e0 := (HS.out _ HQa.out).1; clear hqn))
                go_wp2
                go_roundw
                case rel => exact ⟨i + 1, by go_num, by omega, HQa.out⟩
                case measure => simp [intOf]; omega
              · have hao : True := trivial
                clear hne
                clear HL1 HL2 HL3 HL4 HL5 hm
                go_upto_region 18 with fail
                go_quiet (first | (go_at_call 39; exact HLNq.out _ _ HQ1.out))
                have HQa := Lib.hid (HDN.out _ nq HQ1.out)
                have e0 := (HS.out _ HQa.out).1
                clear k0 k1 k2 g0
                go_upto_region 19 with fail
                go_upto_region 21 with (first
                  | (go_at_call 40; (with_reducible refine (HAq.out _ HQa.out).mono ?_); rintro e wn ⟨rfl, hqn⟩; have HQa := Lib.hid hqn; clear hqn)
                  | (go_at_call 40; (with_reducible refine (HAp.out _ HQa.out).mono ?_); rintro e wn ⟨rfl, hqn⟩; have HQa := Lib.hid hqn; clear hqn)
                  | (go_at_call 40; (with_reducible refine (HAr.out _ HQa.out).mono ?_); rintro e wn ⟨rfl, hqn⟩; have HQa := Lib.hid hqn; have e0 := (HS.out _ HQa.out).1; clear hqn))
                have e0 := (HS.out _ HQa.out).1
                go_upto_region 23 with (first
                  | (go_at_call 40; (with_reducible refine (HAq.out _ HQa.out).mono ?_); rintro e wn ⟨rfl, hqn⟩; have HQa := Lib.hid hqn; clear hqn)
                  | (go_at_call 40; (with_reducible refine (HAp.out _ HQa.out).mono ?_); rintro e wn ⟨rfl, hqn⟩; have HQa := Lib.hid hqn; clear hqn)
                  | (go_at_call 40; (with_reducible refine (HAr.out _ HQa.out).mono ?_); rintro e wn ⟨rfl, hqn⟩; have HQa := Lib.hid hqn; have e0 := (HS.out _ HQa.out).1; clear hqn))
                go_wp2
                go_roundw
                case rel => exact ⟨i + 1, by go_num, by omega, HQa.out⟩
                case measure => simp [intOf]; omega
      · obtain rfl : n = i := by omega
        have hii : ¬ (n : Int) < (n : Int) := by omega
        obtain ⟨k0, k1, k2⟩ := HS.out _ HQ.out
        have hw3 : IntKind.i64.wrap (p - fs) = p - fs := wrap_i (by omega) (by omega)
        have hw4 : IntKind.i64.wrap (p - fs + (n : Int)) = p - fs + (n : Int) := wrap_i (by omega) (by omega)
        have hw6 : IntKind.i64.wrap ox = ox := wrap_i (by omega) (by omega)
        have hw7 : IntKind.i64.wrap (fk + 1) = fk + 1 := wrap_i (by omega) (by omega)
        have hw8 : IntKind.i64.wrap (fk + 1 - ox) = fk + 1 - ox := wrap_i (by omega) (by omega)
        have hkk : (((kn : Nat) : Int) == fk) = true := by simpa using HKF.out
        cases oa
        · go_upto_region 24 with fail
          go_quiet (first | (go_at_call 39; exact HLNq.out _ _ HQ.out))
          go_wp2_with fail
          go_ret
          exact ⟨rfl, (HTR.out _ (HDN.out _ nq HQ.out)).old⟩
        · have hNN : (N == fk + 1 - ox) = true := by simpa using HNF.out rfl
          go_upto_region 24 with fail
          go_quiet (first | (go_at_call 39; exact HLNq.out _ _ HQ.out))
          go_wp2_with fail
          go_ret
          exact ⟨rfl, (HTR.out _ (HDN.out _ nq HQ.out)).old⟩
end Go.Proofs.Ytgjhboikfbafcaa.Pl
