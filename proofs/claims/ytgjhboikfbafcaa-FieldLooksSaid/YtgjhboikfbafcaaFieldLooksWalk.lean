/-
  The walk of FieldLooks.
-/
import Derived.Test.YtgjhboikfbafcaaFlTx
import Derived.Test.YtgjhboikfbafcaaFmP
import Derived.Test.YtgjhboikfbafcaaFlR
import Derived.Test.YtgjhboikfbafcaaFlU
import Derived.Test.YtgjhboikfbafcaaSame
import Derived.Test.YtgjhboikfbafcaaMaskA
namespace Go.Proofs.Ytgjhboikfbafcaa.Pl
open Go.RowKit Go.Shelf Base
set_option linter.unusedVariables false
set_option linter.unusedSimpArgs false

/-- Both planes, the document's in a box q. -/
structure LkS (w : World) (b g q gx n : Nat) (r c : Int) (L : List Cl) (W : World) : Prop where
  pl : PlAt W b g r c 0 L
  bx : W.heap[q]? = some (.cells #[.int .i64 r, .int .i64 c, .slice (some ⟨gx, 0, none⟩) n n, .int .i64 0] 28 (0, 0))
  rx : Rx W gx n n L
  old : Below w.heap.size w W
section
variable {w W W' : World} {b g q gx n : Nat} {r c : Int} {L : List Cl}
theorem LkS.below (h : LkS w b g q gx n r c L W) (t : Below W.heap.size W W') : LkS w b g q gx n r c L W' :=
  ⟨h.pl.below t, (t.block _ (lt_of_block h.bx)).trans h.bx, h.rx.below t, h.old.trans (t.mono h.old.size)⟩
theorem LkS.q4 (h : LkS w b g q gx n r c L W) : W.cell? ⟨q, 0, none⟩ = some (.int .i64 r) ∧ W.cell? ⟨q, 1, none⟩ = some (.int .i64 c) ∧ W.cell? ⟨q, 2, none⟩ = some (.slice (some ⟨gx, 0, none⟩) n n) ∧ W.cell? ⟨q, 3, none⟩ = some (.int .i64 0) :=
  ⟨by simp [World.cell?, h.bx], by simp [World.cell?, h.bx], by simp [World.cell?, h.bx], by simp [World.cell?, h.bx]⟩
end
theorem below_drewN' (W : World) (m : Nat) : Below W.heap.size W (W.drewN m) := ⟨rfl, rfl, rfl, Nat.le_refl _, fun _ _ => rfl⟩
theorem below_drew' (W : World) : Below W.heap.size W W.drew := ⟨rfl, rfl, rfl, Nat.le_refl _, fun _ _ => rfl⟩
/-- A first part of a row. -/
theorem RowOf.firsts {k : IntKind} {w : World} {a : Option Addr} {n c : Nat} {X : List Int} (h : RowOf k w (.slice a n c) X) (m : Nat) (hm : m ≤ n) (c' : Nat) : RowOf k w (.slice a m c') (X.take m) := by
  obtain ⟨a', c0, e, hr⟩ := h
  injection e with e1 e2 e3
  subst e1
  have hl : (X.take m).length = m := by rw [List.length_take]; omega
  refine ⟨a, c', by rw [hl], fun hne => ?_⟩
  have hX : X ≠ [] := by rintro rfl; exact hne (by simp)
  obtain ⟨g, off, rfl, hi⟩ := hr hX
  refine ⟨g, off, rfl, fun i h => ?_⟩
  rw [hl] at h
  have := hi i (by omega)
  rw [this, List.getElem?_take_of_lt h]
/-- A row that grows beside all that was there at a world B. -/
structure GrB (B : World) (et : TypeId) (kk : Nat) (v : Value) (m : Nat) (xs : List Value) (W : World) : Prop where
  old : Below B.heap.size B W
  row : W.ownsRow 0 et kk v m xs
  lo : ∀ j, v.ownBlock = some j → B.heap.size ≤ j
theorem GrB.app {B W W1 w1 : World} {et : TypeId} {kk m m' : Nat} {v v' : Value} {xs ys : List Value} (h : GrB B et kk v m xs W) (hb : Below W.heap.size W W1) (hgrow : W1.grownBy w1 v.ownBlock) (hown : w1.ownsRow 0 et kk v' m' ys) (hat : v'.ownBlock = v.ownBlock ∨ v'.ownBlock = some W1.heap.size) : GrB B et kk v' m' ys w1 := by
  have t1 : Turn (fun j => v.ownBlock = some j) W w1 := (Turn.of_below hb).grown hgrow (fun k hk => .inr hk)
  refine ⟨h.old.trans (t1.below h.old.size h.lo), hown, ?_⟩
  intro j hj
  rcases hat with e | e
  · exact h.lo j (by rw [← e]; exact hj)
  · rw [e] at hj; cases hj; have := hb.size; have := h.old.size; omega
theorem neq_rfd (w : World) (s k a : Int) : (binOp .neq 40 (.agg #[.int .i64 s, .int .i64 k, .int .u8 a]) (.agg #[.int .i64 s, .int .i64 k, .int .u8 a])).run Try.prog w = .ok (.bool false) w := by simp [go_sem]
theorem eql_rfd (w : World) (s k a : Int) : (binOp .eql 40 (.agg #[.int .i64 s, .int .i64 k, .int .u8 a]) (.agg #[.int .i64 s, .int .i64 k, .int .u8 a])).run Try.prog w = .ok (.bool true) w := by simp [go_sem]
theorem sb_yes {u v : Value} {A : List Int} {W : World} (hA : RowOf .u8 W u A) (hB : RowOf .u8 W v A) (hm : A.length ≤ maxLen) : Calls Try.prog 17 #[u, v] W fun e W' => e = .returned (.bool true) ∧ ∃ n, W' = W.drewN n :=
  (Base.same_any u v A A W hA hB hm).mono fun e W' ⟨he, hn⟩ => ⟨by rw [he]; simp, hn⟩
theorem isF_pos {L : List Cl} {a : Int} (h0 : 0 ≤ a) (h1 : a < L.length) : (befL L a != -1) = decide (0 < (allL L).length) := isF_iff h0 h1
set_option maxRecDepth 100000 in
set_option maxHeartbeats 8000000 in
theorem fieldLooks_law {w : World} (r c : Int) {p1 p2 p3 p4 p5 : Prop} (_ : p1) (_ : p2) (v0 : Value) (L0 : List Cl) (hL : ClsAt w v0 L0 ∧ L0.length ≤ maxLen ∧ ∀ x ∈ L0, x.Ok) (page : Int) (_ : p3) (a : Int) (_ : p4) (most : Int) (_ : p5) :
    Calls Try.prog 3 #[.agg #[.int .i64 r, .int .i64 c], v0, .int .i64 page, .int .i64 a, .int .i64 most] w fun e W => e = .returned (.bool true) ∧ Below w.heap.size w W := by
  obtain ⟨hv, hm, hok⟩ := hL
  obtain ⟨a0, cap0, hv0, _⟩ := id hv
  subst hv0
  obtain ⟨m0, hm0⟩ : ∃ m0, m0 = L0.length := ⟨_, rfl⟩
  have HV := Lib.hid hv
  have HM := Lib.hid hm
  have HOK := Lib.hid hok
  rw [← hm0] at HV hm ⊢
  have HM0 := Lib.hid hm0
  obtain ⟨W0, hW0⟩ : ∃ W0, W0 = w.alloc (.cells #[.int .i64 r, .int .i64 c] 23) := ⟨_, rfl⟩
  have hn0 : W0.heap[w.heap.size]? = some (.cells #[.int .i64 r, .int .i64 c] 23 (0, 0)) := by rw [hW0]; exact heap_alloc_new w _
  have HN0 := Lib.hid hn0
  have B0 := Lib.hid (show Below w.heap.size w W0 by rw [hW0]; exact below_alloc w _)
  have HW0 := Lib.hid hW0.symm
  clear hv hok hm0 hW0 hn0 hm
  go_enter Try.func3, Try.ntmps3
  go_wp2_with fail
  rw [HW0.out]
  go_wp2_with (go_at_call 7; (with_reducible refine (fld_alive W0).mono ?_); rintro e w1 ⟨rfl, hb1⟩
               have n1 := (hb1.block _ (lt_of_block HN0.out)).trans HN0.out
               have q0 : w1.cell? ⟨w.heap.size, 0, none⟩ = some (.int .i64 r) := by simp [World.cell?, n1]
               have q1 : w1.cell? ⟨w.heap.size, 1, none⟩ = some (.int .i64 c) := by simp [World.cell?, n1]
               have B1 := Lib.hid (B0.out.trans (hb1.mono B0.out.size)); clear hb1 n1)
  go_at_call 8
  refine (made_any r c (.slice a0 m0 cap0) L0 w1 (HV.out.below (B1.out.mono (Nat.le_refl _))) HM.out).mono ?_
  rintro e w2 (⟨hno, pv, r', c', a', l', k', rfl, hb2⟩ | ⟨b, g, gx, n, hcn, hn1, hn2, rfl, hpl, hrow, hb, hg, hgx, hgb, hgg, hb2⟩)
  · unfold xV
    go_wp2_with fail
    go_ret
    exact ⟨rfl, B1.out.trans ((hb2.mono B1.out.size).alloc (by have := B1.out.size; have := hb2.size; omega) _)⟩
  · unfold xV
    obtain ⟨L, hL⟩ : ∃ L, L = mL n L0 L0.length := ⟨_, rfl⟩
    rw [← hL] at hpl hrow
    have hlen : L.length = n := by rw [hL, mL_length]
    have hokL : OkL L := by rw [hL]; exact mL_ok n HOK.out _
    have hbo : BoL L := bo_of_ok hokL
    obtain ⟨q, hq⟩ : ∃ q, q = w2.heap.size := ⟨_, rfl⟩
    have hs1 := B1.out.size
    have hs2 := hb2.size
    have hl1 := hpl.lt
    have hl2 := hpl.ltg
    have HS0 := Lib.hid (show LkS w b g q gx n r c L (w2.alloc (.cells #[.int .i64 r, .int .i64 c, .slice (some ⟨gx, 0, none⟩) n n, .int .i64 0] 28)) from
      ⟨hpl.alloc _, by rw [hq]; exact heap_alloc_new w2 _, ⟨hrow.alloc _, hlen, by omega⟩, (B1.out.trans (hb2.mono hs1)).alloc (by omega) _⟩)
    have HB := Lib.hid hbo
    have HOKL := Lib.hid hokL
    have HQ := Lib.hid hq
    have HLN := Lib.hid hlen
    have HFM := Lib.hid (isF_pos (L := L) (a := 0) (by omega) (by omega))
    have hmn := allK_most L (fun _ => L) L.length
    rw [show allK L (fun _ => L) L.length = allL L from rfl, hlen] at hmn
    clear hpl hrow hb2 hL hcn q0 q1 hb hg hgx hgb hgg hlen hbo hokL hs1 hs2 hl1 hl2 hq
    go_upto_region 6 with fail
    rw [← HQ.out]
    obtain ⟨w3, hw3⟩ : ∃ w3, w3 = w2.alloc (.cells #[.int .i64 r, .int .i64 c, .slice (some ⟨gx, 0, none⟩) n n, .int .i64 0] 28) := ⟨_, rfl⟩
    rw [← hw3] at HS0 ⊢
    clear hw3 HQ
    obtain ⟨jj, hand, hj1, hj2⟩ := Go.Proofs.Ytgjhboikfbafcaa.Mask.mask_nat most 127 7 128 (by omega) (by decide) (by decide)
    obtain ⟨mo, hmo⟩ : ∃ mo, mo = wrap64 (1 + bits .and .i64 most 127) := ⟨_, rfl⟩
    have hmoj : mo = 1 + (jj : Int) := by
      have e : bits .and .i64 most 127 = (jj : Int) := hand
      rw [hmo, e]
      exact IntWalk.wrap64_in _ (by omega)
    have hmo1 : 1 ≤ mo := by omega
    have hmo2 : mo ≤ 128 := by omega
    clear hand hj1 hj2 hmoj
    obtain ⟨m, hmm⟩ : ∃ m, m = (allL L).length := ⟨_, rfl⟩
    rw [← hmm] at hmn
    have hmk : ((allL L).take mo.toNat).length = min mo.toNat m := by rw [List.length_take, hmm]
    obtain ⟨k, hk⟩ : ∃ k, k = min mo.toNat m := ⟨_, rfl⟩
    rw [← hk] at hmk
    have HMM := Lib.hid hmm
    have HMK := Lib.hid hmk
    have HK := Lib.hid hk
    rw [← hmm] at HFM
    have hkb : k ≤ 128 ∧ k ≤ m := by omega
    clear hmm hmk hk
    obtain ⟨x0, x1, x2, x3⟩ := HS0.out.q4
    have hal := rall_any r c 0 HS0.out.rx HB.out
    unfold xV at hal
    rw [← HMM.out] at hal
    have HAL := Lib.hid hal
    clear hal
    go_upto_region 7 with fail
    rw [← hmo]
    clear hmo
    go_upto_region 9 with (first
      | (go_at_call 9; go_loud ((with_reducible refine HAL.out.mono ?_); rintro e w4 ⟨vl, rfl, hrow, hb4⟩; have S4 := Lib.hid (HS0.out.below hb4); have HRL := Lib.hid hrow; clear hrow hb4))
      | (go_at_call 10; go_loud ((with_reducible refine (lall_any S4.out.pl HB.out mo hmo1).mono ?_); rintro e w5 ⟨vg, rfl, hrow5, _, hb5⟩; have S5 := Lib.hid (S4.out.below hb5); have HRL5 := Lib.hid (row_turn HRL.out (S := fun _ => False) (Turn.of_below hb5) (fun _ _ => id)); have HRG := Lib.hid hrow5; clear hrow5 hb5)))
    obtain ⟨al, capl, hvl, hsl⟩ := rrow_shape HRL5.out
    subst hvl
    obtain ⟨ag, capg, hvg, hsg⟩ := rrow_shape HRG.out
    subst hvg
    rw [HMK.out] at HRG hsg ⊢
    have HSL := Lib.hid hsl
    have HSG := Lib.hid hsg
    clear hsl hsg x0 x1 x2 x3 HAL
    obtain ⟨Q, hQd⟩ : ∃ Q : World → Prop, Q = fun X => LkS w b g q gx n r c L X ∧ X.ownsRow 0 40 3 (.slice al m capl) m (flatF (allL L)) ∧ X.ownsRow 0 39 3 (.slice ag k capg) k (flatF ((allL L).take mo.toNat)) := ⟨_, rfl⟩
    have HQ5 := Lib.hid (show Q w5 by rw [hQd]; exact ⟨S5.out, HRL5.out, HRG.out⟩)
    have HBL := Lib.hid (show ∀ X Y, Q X → Below X.heap.size X Y → Q Y by
      intro X Y hX t; rw [hQd] at hX ⊢
      exact ⟨hX.1.below t, row_turn hX.2.1 (S := fun _ => False) (Turn.of_below t) (fun _ _ => id), row_turn hX.2.2 (S := fun _ => False) (Turn.of_below t) (fun _ _ => id)⟩)
    have HS1 := Lib.hid (show ∀ X, Q X → LkS w b g q gx n r c L X by intro X hX; rw [hQd] at hX; exact hX.1)
    have HSr := Lib.hid (show ∀ X, Q X → X.ownsRow 0 40 3 (.slice al m capl) m (flatF (allL L)) ∧ X.ownsRow 0 39 3 (.slice ag k capg) k (flatF ((allL L).take mo.toNat)) by intro X hX; rw [hQd] at hX; exact hX.2)
    have HDR := Lib.hid (show ∀ X, Q X → Q X.drew from fun X hX => HBL.out X _ hX (below_drew' X))
    have HDN := Lib.hid (show ∀ X j, Q X → Q (X.drewN j) from fun X j hX => HBL.out X _ hX (below_drewN' X j))
    have HSQ := Lib.hid (show ∀ X, Q X → X.cell? ⟨q, 0, none⟩ = some (.int .i64 r) ∧ X.cell? ⟨q, 1, none⟩ = some (.int .i64 c) ∧ X.cell? ⟨q, 2, none⟩ = some (.slice (some ⟨gx, 0, none⟩) n n) ∧ X.cell? ⟨q, 3, none⟩ = some (.int .i64 0) ∧ Q X from fun X hX => by
      obtain ⟨y0, y1, y2, y3⟩ := (HS1.out X hX).q4; exact ⟨y0, y1, y2, y3, hX⟩)
    have OFQ := Lib.hid (show ∀ X, (X.cell? ⟨q, 0, none⟩ = some (.int .i64 r) ∧ X.cell? ⟨q, 1, none⟩ = some (.int .i64 c) ∧ X.cell? ⟨q, 2, none⟩ = some (.slice (some ⟨gx, 0, none⟩) n n) ∧ X.cell? ⟨q, 3, none⟩ = some (.int .i64 0) ∧ Q X) → Q X from fun X h => h.2.2.2.2)
    obtain ⟨fm, hfm⟩ : ∃ fm, fm = decide (0 < m) := ⟨_, rfl⟩
    rw [← hfm] at HFM
    obtain ⟨hm0, hhm⟩ : ∃ hm0, hm0 = homeL L := ⟨_, rfl⟩
    have HFMT := Lib.hid (show ∀ X, Q X → Calls Try.prog 11 #[.pointer (some ⟨b, 0, none⟩)] X fun e Y => e = .returned (.bool fm) ∧ Q Y from fun X hX => (formatted_any (HS1.out X hX).pl).mono fun e Y ⟨h1, h2⟩ => ⟨by rw [h1, HFM.out], HBL.out X Y hX h2⟩)
    have HHOM := Lib.hid (show ∀ X, Q X → Calls Try.prog 12 #[.pointer (some ⟨b, 0, none⟩)] X fun e Y => e = .returned (.int .i64 hm0) ∧ Q Y from fun X hX => (home_any (HS1.out X hX).pl HB.out).mono fun e Y ⟨h1, h2⟩ => ⟨by rw [h1, hhm], HBL.out X Y hX h2⟩)
    have HRHM := Lib.hid (show ∀ X, Q X → Calls Try.prog 13 #[.agg #[.int .i64 r, .int .i64 c, .slice (some ⟨gx, 0, none⟩) n n, .int .i64 0]] X fun e Y => e = .returned (.int .i64 hm0) ∧ Q Y from fun X hX => (rhome_any r c 0 (HS1.out X hX).rx HB.out).mono fun e Y ⟨h1, h2⟩ => ⟨by rw [h1, hhm], HBL.out X Y hX h2⟩)
    have hkm : ((k : Int) != min mo (m : Int)) = false := by
      have := HK.out
      simp only [bne_eq_false_iff_eq]; omega
    have hhh : (hm0 != hm0) = false := by simp
    clear hQd hhm S4 S5 HRL HRL5 HRG HS0
    go_cut [68] (fun v wx => v = .bool false ∧ Q wx)
    case first =>
      have hcases : fm = true ∧ 0 < m ∧ decide (0 < m) = true ∧ (0 : Int) < (m : Int) ∨ fm = false ∧ ¬ 0 < m ∧ decide (0 < m) = false ∧ ¬ (0 : Int) < (m : Int) := by
        rw [hfm]; by_cases h : 0 < m
        · left; exact ⟨decide_eq_true h, h, decide_eq_true h, by omega⟩
        · right; exact ⟨decide_eq_false h, h, decide_eq_false h, by omega⟩
      clear hfm
      rcases hcases with ⟨rfl, hmi, hmd, hmz⟩ | ⟨rfl, hmi, hmd, hmz⟩
      all_goals
        first
        | (go_region_held3 (fun X => X.cell? ⟨q, 0, none⟩ = some (.int .i64 r) ∧ X.cell? ⟨q, 1, none⟩ = some (.int .i64 c) ∧ X.cell? ⟨q, 2, none⟩ = some (.slice (some ⟨gx, 0, none⟩) n n) ∧ X.cell? ⟨q, 3, none⟩ = some (.int .i64 0) ∧ Q X)
            (with_reducible (first | assumption | exact HSQ.out _ (by assumption) | exact HSQ.out _ (HDR.out _ (by assumption)) | exact HSQ.out _ (HDR.out _ HQ5.out) | exact HSQ.out _ HQ5.out))
            (first
              | (go_at_call 11; (with_reducible refine (HFMT.out _ (OFQ.out _ (by assumption))).mono ?_); rintro e wn ⟨rfl, hqn⟩)
              | (go_at_call 12; (with_reducible refine (HHOM.out _ (OFQ.out _ (by assumption))).mono ?_); rintro e wn ⟨rfl, hqn⟩)
              | (go_at_call 13; (with_reducible refine (HRHM.out _ (OFQ.out _ (by assumption))).mono ?_); rintro e wn ⟨rfl, hqn⟩)))
        | fail
        all_goals
          go_wp2_with fail
          go_meet
          first
            | exact ⟨rfl, by assumption⟩
            | exact ⟨rfl, HDR.out _ (by assumption)⟩
    case rest =>
    obtain ⟨rfl, hcu⟩ := hcut
    have HQ6 := Lib.hid hcu
    clear hcu HQ5 HFMT HHOM HRHM hkm hhh hfm HFM
    go_wp2_with fail
    go_loopw [71] (fun u wr => ∃ i : Nat, u = .int .i64 i ∧ i ≤ k ∧ Q wr) (fun u _ => k - (intOf u).toNat)
    case atStart => exact ⟨0, rfl, Nat.zero_le _, HQ6.out⟩
    case round =>
      obtain ⟨i, rfl, hi, hq⟩ := hrel
      have HQ := Lib.hid hq
      clear hq HQ6
      by_cases hi1 : i < k
      · have hii : (i : Int) < (k : Int) := by omega
        have him : (i : Int) < (m : Int) := by omega
        obtain ⟨gl, rfl⟩ := HSL.out (by omega)
        obtain ⟨gg, rfl⟩ := HSG.out (by omega)
        obtain ⟨f, hf⟩ : ∃ f, (allL L)[i]? = some f := ⟨_, List.getElem?_eq_getElem (by rw [← HMM.out]; omega)⟩
        have hfk : ((allL L).take mo.toNat)[i]? = some f := by
          rw [List.getElem?_take_of_lt (by have := HK.out; omega)]; exact hf
        have hmem := List.mem_of_getElem? hf
        obtain ⟨sp, sp0, sp1, sps, hfe⟩ := mem_allL hmem
        have hfa : 0 ≤ f.a ∧ f.a ≤ 255 := by rw [hfe]; exact begF_a L HB.out sp
        have hfb := begF_bd (L := L) (by omega) sp
        rw [← hfe] at hfb
        have hfs : f.s = sp := by rw [hfe]; rfl
        obtain ⟨e0, e1, e2⟩ := rflatF_get _ i f hf
        obtain ⟨d0, d1, d2⟩ := rflatF_get _ i f hfk
        obtain ⟨hr1, hr2⟩ := HSr.out _ HQ.out
        have b0 := (hr2.cellAt (i * 3) (by omega)).trans d0
        have b1 := (hr2.cellAt (i * 3 + 1) (by omega)).trans d1
        have b2 := (hr2.cellAt (i * 3 + 2) (by omega)).trans d2
        rw [← hfs] at sp0 sp1
        rw [HLN.out] at sp1 hfb
        obtain ⟨fs, fk, fa⟩ := f
        simp only at e0 e1 e2 b0 b1 b2 sp0 sp1 hfb hfa
        clear hf hfk hmem hfe hfs sps d0 d1 d2 hr1 hr2
        have HE := Lib.hid (And.intro e0 (And.intro e1 e2))
        clear e0 e1 e2
        go_upto_region 14 with fail
        have HQz := Lib.hid (HBL.out _ _ HQ.out (below_alloc wr (.cells #[.int .i64 fs, .int .i64 fk, .int .u8 fa] 39)))
        have nz := heap_alloc_new wr (.cells #[.int .i64 fs, .int .i64 fk, .int .u8 fa] 39)
        obtain ⟨X0, hX0⟩ : ∃ X0, X0 = wr.alloc (.cells #[.int .i64 fs, .int .i64 fk, .int .u8 fa] 39) := ⟨_, rfl⟩
        have hs0 : X0.heap.size = wr.heap.size + 1 := by rw [hX0, World.size_alloc]
        obtain ⟨F, hF⟩ : ∃ F, F = wr.heap.size := ⟨_, rfl⟩
        rw [← hX0] at HQz nz ⊢
        rw [← hF] at nz hs0 ⊢
        obtain ⟨hr1, _⟩ := HSr.out _ HQz.out
        have c0 := (hr1.cellAt (i * 3) (by omega)).trans HE.out.1
        have c1 := (hr1.cellAt (i * 3 + 1) (by omega)).trans HE.out.2.1
        have c2 := (hr1.cellAt (i * 3 + 2) (by omega)).trans HE.out.2.2
        have HNZ := Lib.hid nz
        have HS0 := Lib.hid hs0
        clear hX0 hr1 b0 b1 b2 hF nz hs0
        go_upto_region 15 with fail
        rw [HS0.out]
        have HQa := Lib.hid (HBL.out _ _ HQz.out (below_alloc X0 (.cells #[.int .i64 fs, .int .i64 fk, .int .u8 fa] 40)))
        have n2 := heap_alloc_new X0 (.cells #[.int .i64 fs, .int .i64 fk, .int .u8 fa] 40)
        have n1 : (X0.alloc (.cells #[.int .i64 fs, .int .i64 fk, .int .u8 fa] 40)).heap[F]? = some (.cells #[.int .i64 fs, .int .i64 fk, .int .u8 fa] 39 (0, 0)) := by
          rw [Below.heap_alloc _ _ _ (by rw [HS0.out]; omega)]; exact HNZ.out
        rw [HS0.out] at n2
        obtain ⟨X1, hX1⟩ : ∃ X1, X1 = X0.alloc (.cells #[.int .i64 fs, .int .i64 fk, .int .u8 fa] 40) := ⟨_, rfl⟩
        rw [← hX1] at HQa n1 n2 ⊢
        obtain ⟨Q2, hQ2d⟩ : ∃ Q2 : World → Prop, Q2 = fun X => Q X ∧ X.heap[F]? = some (.cells #[.int .i64 fs, .int .i64 fk, .int .u8 fa] 39 (0, 0)) ∧ X.heap[F + 1]? = some (.cells #[.int .i64 fs, .int .i64 fk, .int .u8 fa] 40 (0, 0)) := ⟨_, rfl⟩
        have HQ2 := Lib.hid (show Q2 X1 by rw [hQ2d]; exact ⟨HQa.out, n1, n2⟩)
        have HBL2 := Lib.hid (show ∀ X Y, Q2 X → Below X.heap.size X Y → Q2 Y by
          intro X Y hX t; rw [hQ2d] at hX ⊢
          exact ⟨HBL.out X Y hX.1 t, (t.block _ (lt_of_block hX.2.1)).trans hX.2.1, (t.block _ (lt_of_block hX.2.2)).trans hX.2.2⟩)
        have HQ21 := Lib.hid (show ∀ X, Q2 X → Q X by intro X hX; rw [hQ2d] at hX; exact hX.1)
        have HF2 := Lib.hid (show ∀ X, Q2 X → X.cell? ⟨F, 0, none⟩ = some (.int .i64 fs) ∧ X.cell? ⟨F, 1, none⟩ = some (.int .i64 fk) ∧ X.cell? ⟨F, 2, none⟩ = some (.int .u8 fa) ∧ X.cell? ⟨F + 1, 0, none⟩ = some (.int .i64 fs) ∧ X.cell? ⟨F + 1, 1, none⟩ = some (.int .i64 fk) ∧ X.cell? ⟨F + 1, 2, none⟩ = some (.int .u8 fa) by
          intro X hX; rw [hQ2d] at hX
          exact ⟨by simp [World.cell?, hX.2.1], by simp [World.cell?, hX.2.1], by simp [World.cell?, hX.2.1], by simp [World.cell?, hX.2.2], by simp [World.cell?, hX.2.2], by simp [World.cell?, hX.2.2]⟩)
        clear n1 n2 hX1 HQa c0 c1 c2 hQ2d HNZ HS0 HQz HE
        obtain ⟨z0, z1, z2, z3, z4, z5⟩ := HF2.out _ HQ2.out
        obtain ⟨y0, y1, y2, y3, _⟩ := HSQ.out _ (HQ21.out _ HQ2.out)
        obtain ⟨pl, hpl⟩ : ∃ pl, pl = placesL n fs fk := ⟨_, rfl⟩
        have hplin : ∀ y ∈ pl, 0 ≤ y ∧ y < n := fun y hy => mem_places (by rw [← hpl]; exact hy)
        have hpll : pl.length = fk.toNat := by
          rw [hpl]; unfold placesL; rw [if_pos (by simp [inL]; omega), first_length]
        have HPLC := Lib.hid (show ∀ X, Q2 X → Calls Try.prog 14 #[.agg #[.int .i64 r, .int .i64 c, .slice (some ⟨gx, 0, none⟩) n n, .int .i64 0], .agg #[.int .i64 fs, .int .i64 fk, .int .u8 fa]] X fun e Y => ∃ v, e = .returned v ∧ Y.ownsRow 0 3 1 v pl.length (intsV pl) ∧ Q2 Y from fun X hX => by
          have := rplaces_any r c 0 ⟨fs, fk, fa⟩ (HS1.out X (HQ21.out X hX)).rx sp0 sp1 hfb.1 hfb.2
          simp only at this
          rw [← hpl] at this
          exact this.mono fun e Y ⟨v, h1, h2, h3⟩ => ⟨v, h1, h2, HBL2.out X Y hX h3⟩)
        have HPLI := Lib.hid hplin
        have HPLD := Lib.hid hpl
        obtain ⟨np, hnp⟩ : ∃ np, np = pl.length := ⟨_, rfl⟩
        have hnpb : np ≤ 60 * 70 := by omega
        rw [← hnp] at HPLC
        have HNP := Lib.hid hnp
        have HPLL := Lib.hid hpll
        clear hplin hpl hnp hpll
        go_upto_region 16 with (go_at_call 14; (with_reducible refine (HPLC.out _ HQ2.out).mono ?_); rintro e w7 ⟨v3, rfl, hrow3, hq7⟩; have HR3 := Lib.hid hrow3; have HQ7 := Lib.hid hq7; clear hrow3 hq7)
        obtain ⟨av, capv, hv3, hsv⟩ := rrow_shape HR3.out
        subst hv3
        obtain ⟨Q3, hQ3d⟩ : ∃ Q3 : World → Prop, Q3 = fun X => Q2 X ∧ X.ownsRow 0 3 1 (.slice av np capv) np (intsV pl) := ⟨_, rfl⟩
        have HQ3 := Lib.hid (show Q3 w7 by rw [hQ3d]; exact ⟨HQ7.out, HR3.out⟩)
        have HBL3 := Lib.hid (show ∀ X Y, Q3 X → Below X.heap.size X Y → Q3 Y by
          intro X Y hX t; rw [hQ3d] at hX ⊢
          exact ⟨HBL2.out X Y hX.1 t, row_turn hX.2 (S := fun _ => False) (Turn.of_below t) (fun _ _ => id)⟩)
        have HQ32 := Lib.hid (show ∀ X, Q3 X → Q2 X by intro X hX; rw [hQ3d] at hX; exact hX.1)
        have HR3q := Lib.hid (show ∀ X, Q3 X → X.ownsRow 0 3 1 (.slice av np capv) np (intsV pl) by intro X hX; rw [hQ3d] at hX; exact hX.2)
        have HSV := Lib.hid hsv
        clear hsv hQ3d HQ7 HR3 HPLC z0 z1 z2 z3 z4 z5 y0 y1 y2 y3 HQ2
        obtain ⟨u0, hu0, hz0, hz1, hz2⟩ := info_parts info_byte'
        have HG0 := Lib.hid (show GrB w7 5 1 (.slice (some ⟨w7.heap.size, 0, none⟩) 0 0) 0 ((pl.take 0).map (byteV L)) (w7.alloc (.cells #[] 5)) from
          ⟨below_alloc _ _, by simpa using empty_row w7 5 1, fun j hj => by simp [Value.ownBlock] at hj; omega⟩)
        go_wp2_with fail
        go_loopw [20, 86] (fun u1 u2 wx => ∃ (j : Nat) (v : Value), u1 = v ∧ u2 = .int .i64 j ∧ j ≤ np ∧ GrB w7 5 1 v j ((pl.take j).map (byteV L)) wx) (fun _ u2 _ => np - (intOf u2).toNat)
        case atStart => exact ⟨0, _, rfl, rfl, Nat.zero_le _, HG0.out⟩
        case round =>
          obtain ⟨j, v, rfl, rfl, hj, hg⟩ := hrel
          have HG := Lib.hid hg
          clear HG0
          by_cases hj1 : j < np
          · have hji : (j : Int) < (np : Int) := by omega
            have HQw := Lib.hid (HBL3.out _ _ HQ3.out hg.old)
            obtain ⟨gv, rfl⟩ := HSV.out (by omega)
            obtain ⟨y, hy⟩ : ∃ y, pl[j]? = some y := ⟨_, List.getElem?_eq_getElem (by rw [← HNP.out]; exact hj1)⟩
            obtain ⟨hy0, hy1⟩ := HPLI.out y (List.mem_of_getElem? hy)
            obtain ⟨yn, rfl⟩ : ∃ yn : Nat, y = yn := ⟨y.toNat, by omega⟩
            obtain ⟨x, hx⟩ : ∃ x, L[yn]? = some x := ⟨_, List.getElem?_eq_getElem (by rw [HLN.out]; omega)⟩
            have hax := atL_yes hx
            obtain ⟨g0, _, _, _, _⟩ := (HS1.out _ (HQ21.out _ (HQ32.out _ HQw.out))).rx.five hx
            obtain ⟨_, _, y2, _, _⟩ := HSQ.out _ (HQ21.out _ (HQ32.out _ HQw.out))
            have l0 := ((HR3q.out _ HQw.out).cellAt j (by omega)).trans (show (intsV pl)[j]? = some (.int .i64 (yn : Int)) by unfold intsV; rw [List.getElem?_map, hy]; rfl)
            have hown := hg.row
            obtain ⟨xb, xg, xs, xl, xc⟩ := x
            simp only at g0
            have hnx : (pl.take (j + 1)).map (byteV L) = (pl.take j).map (byteV L) ++ [.int .u8 xb] := by
              have hl := (List.getElem?_eq_some_iff.1 hy).1
              rw [List.take_succ_eq_append_getElem hl, List.map_append, (List.getElem?_eq_some_iff.1 hy).2]
              simp only [List.map_cons, List.map_nil]
              unfold byteV
              rw [hax]
            have HNX := Lib.hid hnx
            clear hg hy hx hax hnx
            go_wp2_with (at_builtin; refine wpList_append_own_at _ rfl _ _ 43 rfl 0 5 u0 (.int .u8 0) 1 1 Try.underlying43 hu0 hz0 hz1 hz2 rfl (by decide) _ _ _ rfl (hown.alloc _) ⟨wr.heap.size, 0, none⟩ 1 1 [.int .u8 xb] rfl rfl (cell_one_new _ _ _) (by simp [Value.oneCell']) (by unfold maxLen; omega) (by omega) (Nat.zero_le _) ?_; intro v1 w1 hown1 hgrow1 _ hat1)
            have HS1' := Lib.hid (HG.out.app (below_alloc _ _) hgrow1 hown1 hat1)
            clear hgrow1 hown1 hat1 hown
            go_roundw
            case rel => exact ⟨j + 1, _, rfl, by go_num, by omega, by rw [HNX.out]; exact HS1'.out⟩
            case measure => simp [intOf]; omega
          · obtain rfl : j = np := by omega
            have hji : ¬ (j : Int) < (j : Int) := by omega
            have htk : pl.take j = pl := by rw [HNP.out, List.take_length]
            rw [htk] at hg
            obtain ⟨ab, capb, hvb, _⟩ := rrow_shape hg.row
            subst hvb
            have hbyt : pl.map (byteV L) = (pl.map (fun p => (atL L p).b)).map (Value.int .u8) := by
              rw [List.map_map]; rfl
            obtain ⟨Bt, hBt⟩ : ∃ Bt, Bt = pl.map (fun p => (atL L p).b) := ⟨_, rfl⟩
            rw [← hBt] at hbyt
            have hblen : Bt.length = j := by rw [hBt, List.length_map, HNP.out]
            obtain ⟨Q4, hQ4d⟩ : ∃ Q4 : World → Prop, Q4 = fun X => Q3 X ∧ X.ownsRow 0 5 1 (.slice ab j capb) j (pl.map (byteV L)) := ⟨_, rfl⟩
            have HQ4 := Lib.hid (show Q4 wr by rw [hQ4d]; exact ⟨HBL3.out _ _ HQ3.out hg.old, hg.row⟩)
            have HBL4 := Lib.hid (show ∀ X Y, Q4 X → Below X.heap.size X Y → Q4 Y by
              intro X Y hX t; rw [hQ4d] at hX ⊢
              exact ⟨HBL3.out X Y hX.1 t, row_turn hX.2 (S := fun _ => False) (Turn.of_below t) (fun _ _ => id)⟩)
            have HQ43 := Lib.hid (show ∀ X, Q4 X → Q3 X by intro X hX; rw [hQ4d] at hX; exact hX.1)
            have HDR4 := Lib.hid (show ∀ X, Q4 X → Q4 X.drew from fun X hX => HBL4.out X _ hX (below_drew' X))
            have HDN4 := Lib.hid (show ∀ X d, Q4 X → Q4 (X.drewN d) from fun X d hX => HBL4.out X _ hX (below_drewN' X d))
            have HQ4q := Lib.hid (show ∀ X, Q4 X → Q X from fun X hX => HQ21.out X (HQ32.out X (HQ43.out X hX)))
            have HRB := Lib.hid (show ∀ X, Q4 X → RowOf .u8 X (.slice ab j capb) Bt by
              intro X hX; rw [hQ4d] at hX
              have h2 := hX.2
              rw [hbyt] at h2
              refine RowOf.of_owns (base := 0) (e := 5) ?_
              rw [hblen]; exact h2)
            have HRL := Lib.hid (show ∀ X, Q4 X → RowOf .i64 X (.slice av j capv) pl by
              intro X hX
              have h2 := HR3q.out X (HQ43.out X hX)
              refine RowOf.of_owns (base := 0) (e := 3) ?_
              rw [← HNP.out]; exact h2)
            obtain ⟨Tx, hTx⟩ : ∃ Tx : ByteArray, Tx = ⟨(ftextL page L ⟨fs, fk, fa⟩).toArray⟩ := ⟨_, rfl⟩
            have HPlc := Lib.hid (show ∀ X, Q4 X → Calls Try.prog 16 #[.pointer (some ⟨b, 0, none⟩), .agg #[.int .i64 fs, .int .i64 fk, .int .u8 fa], .int .i64 mo] X fun e Y => ∃ v, e = .returned v ∧ RowOf .i64 Y v (pl.take mo.toNat) ∧ Q4 Y from fun X hX => by
              have := lplaces_any (HS1.out X (HQ4q.out X hX)).pl ⟨fs, fk, fa⟩ mo (by show fk ≤ _; omega) hmo1
              rw [HLN.out] at this
              try simp only at this
              rw [← HPLD.out] at this
              exact this.mono fun e Y ⟨v, h1, h2, _, h3⟩ => ⟨v, h1, RowOf.of_owns h2, HBL4.out X Y hX h3⟩)
            have HDat := Lib.hid (show ∀ X, Q4 X → Calls Try.prog 18 #[.pointer (some ⟨b, 0, none⟩), .agg #[.int .i64 fs, .int .i64 fk, .int .u8 fa]] X fun e Y => ∃ v, e = .returned v ∧ RowOf .u8 Y v Bt ∧ Q4 Y from fun X hX => by
              have := data_any (HS1.out X (HQ4q.out X hX)).pl ⟨fs, fk, fa⟩ (by show fk ≤ _; omega)
              rw [HLN.out] at this
              try simp only at this
              rw [← HPLD.out, hbyt] at this
              exact this.mono fun e Y ⟨v, h1, h2, _, h3⟩ => ⟨v, h1, RowOf.of_owns (by rw [hblen, HNP.out]; exact h2), HBL4.out X Y hX h3⟩)
            have HTxt := Lib.hid (show ∀ X, Q4 X → Calls Try.prog 19 #[.pointer (some ⟨b, 0, none⟩), .int .i64 page, .agg #[.int .i64 fs, .int .i64 fk, .int .u8 fa]] X fun e Y => e = .returned (.string Tx) ∧ Q4 Y from fun X hX => by
              have := ftext_any (HS1.out X (HQ4q.out X hX)).pl HOKL.out page ⟨fs, fk, fa⟩ (by simp [inL, HLN.out]; omega) hfb.1 (by show fk ≤ _; rw [HLN.out]; omega) hfa
              exact this.mono fun e Y ⟨h1, h3⟩ => ⟨by rw [h1, hTx], HBL4.out X Y hX h3⟩)
            have HRTx := Lib.hid (show ∀ X, Q4 X → Calls Try.prog 20 #[.agg #[.int .i64 r, .int .i64 c, .slice (some ⟨gx, 0, none⟩) n n, .int .i64 0], .int .i64 page, .agg #[.int .i64 fs, .int .i64 fk, .int .u8 fa]] X fun e Y => e = .returned (.string Tx) ∧ Q4 Y from fun X hX => by
              have := rftext_any r c 0 page ⟨fs, fk, fa⟩ (HS1.out X (HQ4q.out X hX)).rx HOKL.out sp0 sp1 hfb.1 hfb.2 hfa
              have hse := sees_text (page := page) (L := L) (f := ⟨fs, fk, fa⟩) sp0 (by show fs < _; rw [HLN.out]; exact sp1) hfb.1 (by show fk < _; rw [HLN.out]; exact hfb.2)
              try simp only at this
              rw [HLN.out] at hse
              try simp only at hse
              rw [hse] at this
              exact this.mono fun e Y ⟨h1, h3⟩ => ⟨by rw [h1, hTx], HBL4.out X Y hX h3⟩)
            have HS4 := Lib.hid (show ∀ X, Q4 X → (X.cell? ⟨F, 0, none⟩ = some (.int .i64 fs) ∧ X.cell? ⟨F, 1, none⟩ = some (.int .i64 fk) ∧ X.cell? ⟨F, 2, none⟩ = some (.int .u8 fa) ∧ X.cell? ⟨F + 1, 0, none⟩ = some (.int .i64 fs) ∧ X.cell? ⟨F + 1, 1, none⟩ = some (.int .i64 fk) ∧ X.cell? ⟨F + 1, 2, none⟩ = some (.int .u8 fa)) ∧ X.cell? ⟨q, 0, none⟩ = some (.int .i64 r) ∧ X.cell? ⟨q, 1, none⟩ = some (.int .i64 c) ∧ X.cell? ⟨q, 2, none⟩ = some (.slice (some ⟨gx, 0, none⟩) n n) ∧ X.cell? ⟨q, 3, none⟩ = some (.int .i64 0) ∧ Q4 X from fun X hX => by
              obtain ⟨y0, y1, y2, y3, _⟩ := HSQ.out X (HQ4q.out X hX)
              exact ⟨HF2.out X (HQ32.out X (HQ43.out X hX)), y0, y1, y2, y3, hX⟩)
            have OF4 := Lib.hid (show ∀ X, ((X.cell? ⟨F, 0, none⟩ = some (.int .i64 fs) ∧ X.cell? ⟨F, 1, none⟩ = some (.int .i64 fk) ∧ X.cell? ⟨F, 2, none⟩ = some (.int .u8 fa) ∧ X.cell? ⟨F + 1, 0, none⟩ = some (.int .i64 fs) ∧ X.cell? ⟨F + 1, 1, none⟩ = some (.int .i64 fk) ∧ X.cell? ⟨F + 1, 2, none⟩ = some (.int .u8 fa)) ∧ X.cell? ⟨q, 0, none⟩ = some (.int .i64 r) ∧ X.cell? ⟨q, 1, none⟩ = some (.int .i64 c) ∧ X.cell? ⟨q, 2, none⟩ = some (.slice (some ⟨gx, 0, none⟩) n n) ∧ X.cell? ⟨q, 3, none⟩ = some (.int .i64 0) ∧ Q4 X) → Q4 X from fun X h => h.2.2.2.2.2)
            obtain ⟨kk, hkk⟩ : ∃ kk : Nat, kk = min mo.toNat j := ⟨_, rfl⟩
            have hkI : min mo (j : Int) = (kk : Int) := by omega
            have hk0 : (0 : Int) ≤ (kk : Int) := by omega
            have hkj : (kk : Int) ≤ (j : Int) := by omega
            have hkjN : kk ≤ j := by omega
            have htke : pl.take mo.toNat = pl.take kk := by
              rw [hkk, HNP.out, ← List.take_eq_take_min]
            have HTKE := Lib.hid htke
            have hnf := fun w => neq_rfd w fs fk fa
            have hst : (Tx.toList != Tx.toList) = false := by simp
            have hbl := hblen
            have HBLEN := Lib.hid hblen
            clear hg htk hbyt hBt hTx hQ4d hkk htke hblen hbl
            have hshape : (av = none ∧ j = 0 ∧ capv = 0) ∨ ∃ g, av = some ⟨g, 0, none⟩ ∧ j ≤ capv := by
              rcases (HR3q.out _ (HQ43.out _ HQ4.out)).2 with ⟨h1, h2⟩ | ⟨g, cap, cur, h1, _, _, h4, _⟩
              · injection h1 with e1 e2 e3; exact .inl ⟨e1, h2, e3⟩
              · injection h1 with e1 e2 e3; exact .inr ⟨g, e1, by omega⟩
            go_upto_region 22 with fail
            go_cut [135] (fun u wy => u = .bool false ∧ Q wy)
            case first =>
              rcases hshape with ⟨rfl, rfl, rfl⟩ | ⟨gv, rfl, hjc⟩
              · obtain rfl : kk = 0 := by omega
                have hkI0 : min mo (0 : Int) = 0 := by omega
                have hkI1 : min mo ((0 : Nat) : Int) = 0 := by omega
                first
                | (go_region_held3 (fun X => (X.cell? ⟨F, 0, none⟩ = some (.int .i64 fs) ∧ X.cell? ⟨F, 1, none⟩ = some (.int .i64 fk) ∧ X.cell? ⟨F, 2, none⟩ = some (.int .u8 fa) ∧ X.cell? ⟨F + 1, 0, none⟩ = some (.int .i64 fs) ∧ X.cell? ⟨F + 1, 1, none⟩ = some (.int .i64 fk) ∧ X.cell? ⟨F + 1, 2, none⟩ = some (.int .u8 fa)) ∧ X.cell? ⟨q, 0, none⟩ = some (.int .i64 r) ∧ X.cell? ⟨q, 1, none⟩ = some (.int .i64 c) ∧ X.cell? ⟨q, 2, none⟩ = some (.slice (some ⟨gx, 0, none⟩) n n) ∧ X.cell? ⟨q, 3, none⟩ = some (.int .i64 0) ∧ Q4 X)
                    (with_reducible (first | assumption | exact HS4.out _ (by assumption) | exact HS4.out _ (HDR4.out _ (by assumption)) | exact HS4.out _ (HDR4.out _ HQ4.out) | exact HS4.out _ HQ4.out))
                    (first
                      | (go_at_call 16; (with_reducible refine (HPlc.out _ (OF4.out _ (by assumption))).mono ?_); rintro e wn ⟨vp, rfl, hrp, hqn⟩; rw [HTKE.out] at hrp; have HRP := Lib.hid hrp; clear hrp)
                      | (go_at_call 15; refine (si_yes HRP.out (RowOf.firsts (HRL.out _ (OF4.out _ (by assumption))) _ hkjN _) (by rw [List.length_take]; unfold maxLen; omega)).mono ?_; rintro e wn ⟨rfl, d, rfl⟩; have hqn := HDN4.out _ d (OF4.out _ (by assumption)))
                      | (go_at_call 18; (with_reducible refine (HDat.out _ (OF4.out _ (by assumption))).mono ?_); rintro e wn ⟨vd, rfl, hrd, hqn⟩; have HRD := Lib.hid hrd; clear hrd)
                      | (go_at_call 17; refine (sb_yes HRD.out (HRB.out _ (OF4.out _ (by assumption))) (by rw [HBLEN.out]; unfold maxLen; omega)).mono ?_; rintro e wn ⟨rfl, d, rfl⟩; have hqn := HDN4.out _ d (OF4.out _ (by assumption)))
                      | (go_at_call 19; (with_reducible refine (HTxt.out _ (OF4.out _ (by assumption))).mono ?_); rintro e wn ⟨rfl, hqn⟩)
                      | (go_at_call 20; (with_reducible refine (HRTx.out _ (OF4.out _ (by assumption))).mono ?_); rintro e wn ⟨rfl, hqn⟩)))
                | fail
                all_goals
                  go_wp2_with fail
                  go_meet
                  first
                    | exact ⟨rfl, HQ4q.out _ (by assumption)⟩
                    | exact ⟨rfl, HQ4q.out _ (HDR4.out _ (by assumption))⟩
              · have hkc : (kk : Int) ≤ (capv : Int) := by omega
                have hjcI : (j : Int) ≤ (capv : Int) := by omega
                first
                | (go_region_held3 (fun X => (X.cell? ⟨F, 0, none⟩ = some (.int .i64 fs) ∧ X.cell? ⟨F, 1, none⟩ = some (.int .i64 fk) ∧ X.cell? ⟨F, 2, none⟩ = some (.int .u8 fa) ∧ X.cell? ⟨F + 1, 0, none⟩ = some (.int .i64 fs) ∧ X.cell? ⟨F + 1, 1, none⟩ = some (.int .i64 fk) ∧ X.cell? ⟨F + 1, 2, none⟩ = some (.int .u8 fa)) ∧ X.cell? ⟨q, 0, none⟩ = some (.int .i64 r) ∧ X.cell? ⟨q, 1, none⟩ = some (.int .i64 c) ∧ X.cell? ⟨q, 2, none⟩ = some (.slice (some ⟨gx, 0, none⟩) n n) ∧ X.cell? ⟨q, 3, none⟩ = some (.int .i64 0) ∧ Q4 X)
                    (with_reducible (first | assumption | exact HS4.out _ (by assumption) | exact HS4.out _ (HDR4.out _ (by assumption)) | exact HS4.out _ (HDR4.out _ HQ4.out) | exact HS4.out _ HQ4.out))
                    (first
                      | (go_at_call 16; (with_reducible refine (HPlc.out _ (OF4.out _ (by assumption))).mono ?_); rintro e wn ⟨vp, rfl, hrp, hqn⟩; rw [HTKE.out] at hrp; have HRP := Lib.hid hrp; clear hrp)
                      | (go_at_call 15; refine (si_yes HRP.out (RowOf.firsts (HRL.out _ (OF4.out _ (by assumption))) _ hkjN _) (by rw [List.length_take]; unfold maxLen; omega)).mono ?_; rintro e wn ⟨rfl, d, rfl⟩; have hqn := HDN4.out _ d (OF4.out _ (by assumption)))
                      | (go_at_call 18; (with_reducible refine (HDat.out _ (OF4.out _ (by assumption))).mono ?_); rintro e wn ⟨vd, rfl, hrd, hqn⟩; have HRD := Lib.hid hrd; clear hrd)
                      | (go_at_call 17; refine (sb_yes HRD.out (HRB.out _ (OF4.out _ (by assumption))) (by rw [HBLEN.out]; unfold maxLen; omega)).mono ?_; rintro e wn ⟨rfl, d, rfl⟩; have hqn := HDN4.out _ d (OF4.out _ (by assumption)))
                      | (go_at_call 19; (with_reducible refine (HTxt.out _ (OF4.out _ (by assumption))).mono ?_); rintro e wn ⟨rfl, hqn⟩)
                      | (go_at_call 20; (with_reducible refine (HRTx.out _ (OF4.out _ (by assumption))).mono ?_); rintro e wn ⟨rfl, hqn⟩)))
                | fail
                all_goals
                  go_wp2_with fail
                  go_meet
                  first
                    | exact ⟨rfl, HQ4q.out _ (by assumption)⟩
                    | exact ⟨rfl, HQ4q.out _ (HDR4.out _ (by assumption))⟩
            case rest =>
            obtain ⟨rfl, hcu⟩ := hcut
            have HQ8 := Lib.hid hcu
            clear hcu
            go_wp2_with fail
            go_roundw
            case rel => exact ⟨i + 1, by go_num, by omega, HQ8.out⟩
            case measure => simp [intOf]; omega
      · obtain rfl : k = i := by omega
        have hii : ¬ (k : Int) < (k : Int) := by omega
        obtain ⟨iv, hiv⟩ : ∃ iv, iv = isF L a := ⟨_, rfl⟩
        obtain ⟨⟨gs, gk, ga⟩, hg⟩ : ∃ g, g = ofF L a := ⟨_, rfl⟩
        obtain ⟨bf, hbf⟩ : ∃ bf, bf = befL L a := ⟨_, rfl⟩
        obtain ⟨af, haf⟩ : ∃ af, af = aftL L a := ⟨_, rfl⟩
        obtain ⟨oa, hoa⟩ : ∃ oa, oa = opnL L a := ⟨_, rfl⟩
        have hbv : (iv = true → gs = bf) ∧ (iv = false → bf = -1) := by
          constructor
          · intro h
            rw [hiv] at h
            have := (show (ofF L a).s = befL L a by
              have hb : befL L a ≠ -1 := by unfold isF at h; simpa using h
              unfold ofF; rw [if_neg hb]; rfl)
            rw [← hg, ← hbf] at this; exact this
          · intro h
            rw [hiv] at h
            unfold isF at h
            rw [hbf]; simpa using h
        have HBV := Lib.hid hbv
        have HOf := Lib.hid (show ∀ X, Q X → Calls Try.prog 21 #[.pointer (some ⟨b, 0, none⟩), .int .i64 a] X fun e Y => e = .returned (.tuple #[.agg #[.int .i64 gs, .int .i64 gk, .int .u8 ga], .bool iv]) ∧ Q Y from fun X hX => (of_any (HS1.out X hX).pl a HB.out).mono fun e Y ⟨h1, h2⟩ => ⟨by rw [h1, ← hg, ← hiv] <;> rfl, HBL.out X Y hX h2⟩)
        have HROf := Lib.hid (show ∀ X, Q X → Calls Try.prog 22 #[.agg #[.int .i64 r, .int .i64 c, .slice (some ⟨gx, 0, none⟩) n n, .int .i64 0], .int .i64 a] X fun e Y => e = .returned (.tuple #[.agg #[.int .i64 gs, .int .i64 gk, .int .u8 ga], .bool iv]) ∧ Below X.heap.size X Y from fun X hX => (rof_any r c 0 a (HS1.out X hX).rx HB.out).mono fun e Y ⟨h1, h2⟩ => ⟨by rw [h1, ← hg, ← hiv] <;> rfl, h2⟩)
        have HBf := Lib.hid (show ∀ X, Q X → Calls Try.prog 23 #[.pointer (some ⟨b, 0, none⟩), .int .i64 a] X fun e Y => e = .returned (.int .i64 bf) ∧ Below X.heap.size X Y from fun X hX => (before_any (HS1.out X hX).pl a).mono fun e Y ⟨h1, h2⟩ => ⟨by rw [h1, hbf], h2⟩)
        have HAf := Lib.hid (show ∀ X, Q X → Calls Try.prog 24 #[.pointer (some ⟨b, 0, none⟩), .int .i64 a] X fun e Y => e = .returned (.int .i64 af) ∧ Below X.heap.size X Y from fun X hX => (after_any (HS1.out X hX).pl a).mono fun e Y ⟨h1, h2⟩ => ⟨by rw [h1, haf], h2⟩)
        have HRAf := Lib.hid (show ∀ X, Q X → Calls Try.prog 25 #[.agg #[.int .i64 r, .int .i64 c, .slice (some ⟨gx, 0, none⟩) n n, .int .i64 0], .int .i64 a] X fun e Y => e = .returned (.int .i64 af) ∧ Below X.heap.size X Y from fun X hX => (rafter_any r c 0 a (HS1.out X hX).rx).mono fun e Y ⟨h1, h2⟩ => ⟨by rw [h1, haf], h2⟩)
        have HOp := Lib.hid (show ∀ X, Q X → Calls Try.prog 26 #[.pointer (some ⟨b, 0, none⟩), .int .i64 a] X fun e Y => e = .returned (.bool oa) ∧ Below X.heap.size X Y from fun X hX => (open_any (HS1.out X hX).pl a HB.out).mono fun e Y ⟨h1, h2⟩ => ⟨by rw [h1, hoa], h2⟩)
        have HROp := Lib.hid (show ∀ X, Q X → Calls Try.prog 27 #[.agg #[.int .i64 r, .int .i64 c, .slice (some ⟨gx, 0, none⟩) n n, .int .i64 0], .int .i64 a] X fun e Y => e = .returned (.bool oa) ∧ Below X.heap.size X Y from fun X hX => (ropen_any r c 0 a (HS1.out X hX).rx HB.out).mono fun e Y ⟨h1, h2⟩ => ⟨by rw [h1, hoa], h2⟩)
        clear hiv hg hbf haf hoa hbv
        go_upto_region 26 with (go_at_call 21; (with_reducible refine (HOf.out _ HQ.out).mono ?_); rintro e wo ⟨rfl, hqo⟩)
        have n1 := heap_alloc_new wo (.cells #[.int .i64 gs, .int .i64 gk, .int .u8 ga] 39)
        have hq1 := HBL.out _ _ hqo (below_alloc wo (.cells #[.int .i64 gs, .int .i64 gk, .int .u8 ga] 39))
        obtain ⟨F, hF⟩ : ∃ F, F = wo.heap.size := ⟨_, rfl⟩
        obtain ⟨X0, hX0⟩ : ∃ X0, X0 = wo.alloc (.cells #[.int .i64 gs, .int .i64 gk, .int .u8 ga] 39) := ⟨_, rfl⟩
        rw [← hF, ← hX0] at n1
        rw [← hX0] at hq1
        rw [← hF, ← hX0]
        have HN1 := Lib.hid n1
        have HQ1 := Lib.hid hq1
        clear hF hX0 hqo n1 hq1 HQ HOf
        obtain ⟨y0, y1, y2, y3, _⟩ := HSQ.out _ HQ1.out
        go_upto_region 27 with (go_at_call 22; (with_reducible refine (HROf.out _ HQ1.out).mono ?_); rintro e wp ⟨rfl, hbp⟩)
        have n2 := heap_alloc_new wp (.cells #[.int .i64 gs, .int .i64 gk, .int .u8 ga] 40)
        have hbb := hbp.trans ((below_alloc wp (.cells #[.int .i64 gs, .int .i64 gk, .int .u8 ga] 40)).mono hbp.size)
        have hq2 := HBL.out _ _ HQ1.out hbb
        have n1 := (hbb.block F (lt_of_block HN1.out)).trans HN1.out
        obtain ⟨G, hG⟩ : ∃ G, G = wp.heap.size := ⟨_, rfl⟩
        obtain ⟨X1, hX1⟩ : ∃ X1, X1 = wp.alloc (.cells #[.int .i64 gs, .int .i64 gk, .int .u8 ga] 40) := ⟨_, rfl⟩
        rw [← hG, ← hX1] at n2
        rw [← hX1] at hq2 n1
        rw [← hG, ← hX1]
        obtain ⟨Q9, hQ9d⟩ : ∃ Q9 : World → Prop, Q9 = fun X => Q X ∧ X.heap[F]? = some (.cells #[.int .i64 gs, .int .i64 gk, .int .u8 ga] 39 (0, 0)) ∧ X.heap[G]? = some (.cells #[.int .i64 gs, .int .i64 gk, .int .u8 ga] 40 (0, 0)) := ⟨_, rfl⟩
        have HQ9 := Lib.hid (show Q9 X1 by rw [hQ9d]; exact ⟨hq2, n1, n2⟩)
        have HBL9 := Lib.hid (show ∀ X Y, Q9 X → Below X.heap.size X Y → Q9 Y by
          intro X Y hX t; rw [hQ9d] at hX ⊢
          exact ⟨HBL.out X Y hX.1 t, (t.block _ (lt_of_block hX.2.1)).trans hX.2.1, (t.block _ (lt_of_block hX.2.2)).trans hX.2.2⟩)
        have HQ9q := Lib.hid (show ∀ X, Q9 X → Q X by intro X hX; rw [hQ9d] at hX; exact hX.1)
        have HDR9 := Lib.hid (show ∀ X, Q9 X → Q9 X.drew from fun X hX => HBL9.out X _ hX (below_drew' X))
        have HS9 := Lib.hid (show ∀ X, Q9 X → (X.cell? ⟨F, 0, none⟩ = some (.int .i64 gs) ∧ X.cell? ⟨F, 1, none⟩ = some (.int .i64 gk) ∧ X.cell? ⟨F, 2, none⟩ = some (.int .u8 ga) ∧ X.cell? ⟨G, 0, none⟩ = some (.int .i64 gs) ∧ X.cell? ⟨G, 1, none⟩ = some (.int .i64 gk) ∧ X.cell? ⟨G, 2, none⟩ = some (.int .u8 ga)) ∧ X.cell? ⟨q, 0, none⟩ = some (.int .i64 r) ∧ X.cell? ⟨q, 1, none⟩ = some (.int .i64 c) ∧ X.cell? ⟨q, 2, none⟩ = some (.slice (some ⟨gx, 0, none⟩) n n) ∧ X.cell? ⟨q, 3, none⟩ = some (.int .i64 0) ∧ Q9 X by
          intro X hX
          obtain ⟨y0, y1, y2, y3, _⟩ := HSQ.out X (HQ9q.out X hX)
          have h2 := hX
          rw [hQ9d] at h2
          exact ⟨⟨by simp [World.cell?, h2.2.1], by simp [World.cell?, h2.2.1], by simp [World.cell?, h2.2.1], by simp [World.cell?, h2.2.2], by simp [World.cell?, h2.2.2], by simp [World.cell?, h2.2.2]⟩, y0, y1, y2, y3, hX⟩)
        have OF9 := Lib.hid (show ∀ X, ((X.cell? ⟨F, 0, none⟩ = some (.int .i64 gs) ∧ X.cell? ⟨F, 1, none⟩ = some (.int .i64 gk) ∧ X.cell? ⟨F, 2, none⟩ = some (.int .u8 ga) ∧ X.cell? ⟨G, 0, none⟩ = some (.int .i64 gs) ∧ X.cell? ⟨G, 1, none⟩ = some (.int .i64 gk) ∧ X.cell? ⟨G, 2, none⟩ = some (.int .u8 ga)) ∧ X.cell? ⟨q, 0, none⟩ = some (.int .i64 r) ∧ X.cell? ⟨q, 1, none⟩ = some (.int .i64 c) ∧ X.cell? ⟨q, 2, none⟩ = some (.slice (some ⟨gx, 0, none⟩) n n) ∧ X.cell? ⟨q, 3, none⟩ = some (.int .i64 0) ∧ Q9 X) → Q9 X from fun X h => h.2.2.2.2.2)
        clear n1 n2 hbb hbp hq2 hG hX1 hQ9d y0 y1 y2 y3 HN1 HROf HQ1
        obtain ⟨⟨_, _, _, z0, _, _⟩, _⟩ := HS9.out _ HQ9.out
        have hef := fun w => eql_rfd w gs gk ga
        have hb1 : (bf == bf) = true := by simp
        have hb2 : (af == af) = true := by simp
        cases iv
        · obtain rfl : bf = -1 := HBV.out.2 rfl
          go_upto_region 30 with fail
          first
          | (go_region_held3 (fun X => (X.cell? ⟨F, 0, none⟩ = some (.int .i64 gs) ∧ X.cell? ⟨F, 1, none⟩ = some (.int .i64 gk) ∧ X.cell? ⟨F, 2, none⟩ = some (.int .u8 ga) ∧ X.cell? ⟨G, 0, none⟩ = some (.int .i64 gs) ∧ X.cell? ⟨G, 1, none⟩ = some (.int .i64 gk) ∧ X.cell? ⟨G, 2, none⟩ = some (.int .u8 ga)) ∧ X.cell? ⟨q, 0, none⟩ = some (.int .i64 r) ∧ X.cell? ⟨q, 1, none⟩ = some (.int .i64 c) ∧ X.cell? ⟨q, 2, none⟩ = some (.slice (some ⟨gx, 0, none⟩) n n) ∧ X.cell? ⟨q, 3, none⟩ = some (.int .i64 0) ∧ Q9 X)
              (with_reducible (first | assumption | exact HS9.out _ (by assumption) | exact HS9.out _ (HDR9.out _ (by assumption)) | exact HS9.out _ (HDR9.out _ HQ9.out) | exact HS9.out _ HQ9.out))
              (first
                | (go_at_call 23; (with_reducible refine (HBf.out _ (HQ9q.out _ (OF9.out _ (by assumption)))).mono ?_); rintro e wn ⟨rfl, hbn⟩; have hqn := HBL9.out _ _ (OF9.out _ (by assumption)) hbn; clear hbn)
                | (go_at_call 24; (with_reducible refine (HAf.out _ (HQ9q.out _ (OF9.out _ (by assumption)))).mono ?_); rintro e wn ⟨rfl, hbn⟩; have hqn := HBL9.out _ _ (OF9.out _ (by assumption)) hbn; clear hbn)
                | (go_at_call 25; (with_reducible refine (HRAf.out _ (HQ9q.out _ (OF9.out _ (by assumption)))).mono ?_); rintro e wn ⟨rfl, hbn⟩; have hqn := HBL9.out _ _ (OF9.out _ (by assumption)) hbn; clear hbn)
                | (go_at_call 26; (with_reducible refine (HOp.out _ (HQ9q.out _ (OF9.out _ (by assumption)))).mono ?_); rintro e wn ⟨rfl, hbn⟩; have hqn := HBL9.out _ _ (OF9.out _ (by assumption)) hbn; clear hbn)
                | (go_at_call 27; (with_reducible refine (HROp.out _ (HQ9q.out _ (OF9.out _ (by assumption)))).mono ?_); rintro e wn ⟨rfl, hbn⟩; have hqn := HBL9.out _ _ (OF9.out _ (by assumption)) hbn; clear hbn)))
          | fail
          all_goals
            go_wp2
            go_ret
            first
              | exact ⟨rfl, (HS1.out _ (HQ9q.out _ (by assumption))).old⟩
              | exact ⟨rfl, (HS1.out _ (HQ9q.out _ (HDR9.out _ (by assumption)))).old⟩
        · obtain rfl : gs = bf := HBV.out.1 rfl
          go_upto_region 30 with fail
          first
          | (go_region_held3 (fun X => (X.cell? ⟨F, 0, none⟩ = some (.int .i64 gs) ∧ X.cell? ⟨F, 1, none⟩ = some (.int .i64 gk) ∧ X.cell? ⟨F, 2, none⟩ = some (.int .u8 ga) ∧ X.cell? ⟨G, 0, none⟩ = some (.int .i64 gs) ∧ X.cell? ⟨G, 1, none⟩ = some (.int .i64 gk) ∧ X.cell? ⟨G, 2, none⟩ = some (.int .u8 ga)) ∧ X.cell? ⟨q, 0, none⟩ = some (.int .i64 r) ∧ X.cell? ⟨q, 1, none⟩ = some (.int .i64 c) ∧ X.cell? ⟨q, 2, none⟩ = some (.slice (some ⟨gx, 0, none⟩) n n) ∧ X.cell? ⟨q, 3, none⟩ = some (.int .i64 0) ∧ Q9 X)
              (with_reducible (first | assumption | exact HS9.out _ (by assumption) | exact HS9.out _ (HDR9.out _ (by assumption)) | exact HS9.out _ (HDR9.out _ HQ9.out) | exact HS9.out _ HQ9.out))
              (first
                | (go_at_call 23; (with_reducible refine (HBf.out _ (HQ9q.out _ (OF9.out _ (by assumption)))).mono ?_); rintro e wn ⟨rfl, hbn⟩; have hqn := HBL9.out _ _ (OF9.out _ (by assumption)) hbn; clear hbn)
                | (go_at_call 24; (with_reducible refine (HAf.out _ (HQ9q.out _ (OF9.out _ (by assumption)))).mono ?_); rintro e wn ⟨rfl, hbn⟩; have hqn := HBL9.out _ _ (OF9.out _ (by assumption)) hbn; clear hbn)
                | (go_at_call 25; (with_reducible refine (HRAf.out _ (HQ9q.out _ (OF9.out _ (by assumption)))).mono ?_); rintro e wn ⟨rfl, hbn⟩; have hqn := HBL9.out _ _ (OF9.out _ (by assumption)) hbn; clear hbn)
                | (go_at_call 26; (with_reducible refine (HOp.out _ (HQ9q.out _ (OF9.out _ (by assumption)))).mono ?_); rintro e wn ⟨rfl, hbn⟩; have hqn := HBL9.out _ _ (OF9.out _ (by assumption)) hbn; clear hbn)
                | (go_at_call 27; (with_reducible refine (HROp.out _ (HQ9q.out _ (OF9.out _ (by assumption)))).mono ?_); rintro e wn ⟨rfl, hbn⟩; have hqn := HBL9.out _ _ (OF9.out _ (by assumption)) hbn; clear hbn)))
          | fail
          all_goals
            go_wp2
            go_ret
            first
              | exact ⟨rfl, (HS1.out _ (HQ9q.out _ (by assumption))).old⟩
              | exact ⟨rfl, (HS1.out _ (HQ9q.out _ (HDR9.out _ (by assumption)))).old⟩
end Go.Proofs.Ytgjhboikfbafcaa.Pl
