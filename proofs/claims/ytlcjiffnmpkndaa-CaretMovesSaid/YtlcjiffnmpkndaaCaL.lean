/-
  The reference of layer 19: back, newline, on.
-/
import Derived.Test.YtlcjiffnmpkndaaCaK
namespace Go.Proofs.Ytlcjiffnmpkndaa.Pl
open Go.RowKit Go.Shelf Base
set_option linter.unusedVariables false
set_option linter.unusedSimpArgs false

theorem rx_five {W : World} {gx n cap : Nat} {L : List Cl} (h : Rx W gx n cap L) {a : Int} (h0 : 0 ≤ a) (h1 : a < n) : ∃ k : Nat, a = k ∧ k < n ∧ C5 W gx (k * 5) (atL L a) := by
  have hl := h.len
  obtain ⟨k, rfl⟩ : ∃ k : Nat, a = k := ⟨a.toNat, by omega⟩
  refine ⟨k, rfl, by omega, ?_⟩
  obtain ⟨x, hx⟩ : ∃ x, L[k]? = some x := ⟨_, List.getElem?_eq_getElem (by omega)⟩
  rw [atL_yes hx]
  exact h.five hx
set_option maxRecDepth 100000 in
set_option maxHeartbeats 4000000 in
theorem ron19_any {w : World} {gx n cap : Nat} {L : List Cl} (r c cur : Int) (hx : Rx w gx n cap L) (hbo : BoL L) (hcur : 0 ≤ cur ∧ cur < n) : Calls Try.prog 25 #[xV r c (.slice (some ⟨gx, 0, none⟩) n cap) cur] w fun e W =>
    e = .returned (.int .i64 (onL L cur)) ∧ Below w.heap.size w W := by
  have hm := hx.most
  have hln : (L.length : Int) = n := by rw [hx.len]
  have hn1 : (1 : Int) ≤ (n : Int) := by omega
  have hn6 : (n : Int) ≤ 4096 := by omega
  obtain ⟨a1, ha1⟩ : ∃ a1, a1 = mv n cur 1 := ⟨_, rfl⟩
  obtain ⟨a2, ha2⟩ : ∃ a2, a2 = mv n a1 1 := ⟨_, rfl⟩
  have hb1 := mv_bd (n := n) (a := cur) (b := 1) hn1
  rw [← ha1] at hb1
  have e1 : (cur + 1).tmod (n : Int) = a1 := by rw [Int.tmod_eq_emod_of_nonneg (by omega), ha1, mv_pos (by omega)]
  have e2 : (a1 + 1).tmod (n : Int) = a2 := by rw [Int.tmod_eq_emod_of_nonneg (by omega), ha2, mv_pos (by omega)]
  obtain ⟨⟨yb, yg, ys, yl, yc⟩, hy⟩ : ∃ y, y = atL L a1 := ⟨_, rfl⟩
  have hby := hbo a1
  rw [← hy] at hby
  simp only at hby
  obtain ⟨t, ht⟩ : ∃ t, t = tabL L a1 := ⟨_, rfl⟩
  obtain ⟨p, hp⟩ : ∃ p, p = Attr.prot yb := ⟨_, rfl⟩
  obtain ⟨q, hq⟩ : ∃ q, q = Attr.nume yb := ⟨_, rfl⟩
  obtain ⟨o, ho⟩ : ∃ o, o = onL L cur := ⟨_, rfl⟩
  rw [← ho]
  have hon : o = if ys = true then (if (p && q) = true then t else a2) else a1 := by rw [ho]; unfold onL; rw [hln, ← ha1, ← ha2, ← hy, ← ht, ← hp, ← hq]
  have HON := Lib.hid hon
  have HT := Lib.hid ht
  have HP := Lib.hid hp
  have HQQ := Lib.hid hq
  have h1 := R9Q.begin hx r c cur
  obtain ⟨W0, hW0⟩ : ∃ W0, W0 = w.alloc (.cells #[.int .i64 r, .int .i64 c, .slice (some ⟨gx, 0, none⟩) n cap, .int .i64 cur] 29) := ⟨_, rfl⟩
  rw [← hW0] at h1
  have h5 := rx_five h1.rx hb1.1 hb1.2
  rw [← hy] at h5
  obtain ⟨k, hk, hkn, f0, f1, f2, f3, f4⟩ := h5
  simp only at f0 f1 f2 f3 f4
  subst hk
  have H1 := Lib.hid h1
  have HW0 := Lib.hid hW0.symm
  obtain ⟨q0, q1, q2, q3, _⟩ := h1.q
  have h2 := h1.below (below_alloc W0 (.cells #[.int .u8 yb, .bool yg, .bool ys, .int .u8 yl, .int .u8 yc] 58))
  have c2 := heap_alloc_new W0 (.cells #[.int .u8 yb, .bool yg, .bool ys, .int .u8 yl, .int .u8 yc] 58)
  obtain ⟨W1, hW1⟩ : ∃ W1, W1 = W0.alloc (.cells #[.int .u8 yb, .bool yg, .bool ys, .int .u8 yl, .int .u8 yc] 58) := ⟨_, rfl⟩
  rw [← hW1] at h2 c2
  have d0 : W1.cell? ⟨W0.heap.size, 0, none⟩ = some (.int .u8 yb) := by simp [World.cell?, c2]
  have d2 : W1.cell? ⟨W0.heap.size, 2, none⟩ = some (.bool ys) := by simp [World.cell?, c2]
  obtain ⟨u0, u1, u2, u3, _⟩ := h2.q
  have H2 := Lib.hid h2
  have HW1 := Lib.hid hW1.symm
  have HTB := Lib.hid (rtab19_any r c cur (k : Int) h2.rx hbo hb1)
  rw [← HT.out] at HTB
  have hk0 : (0 : Int) ≤ (k : Int) := by omega
  have hk1 : (k : Int) < (n : Int) := by omega
  unfold xV at HTB ⊢
  clear hx hbo ha1 ha2 hy ht hp hq ho hon h1 hW0 h2 c2 hW1
  cases ys with
  | false =>
    go_enter Try.func25, Try.ntmps25
    go_upto_region 1 with fail
    rw [HW0.out]
    go_upto_region 4 with fail
    rw [HW1.out]
    go_wp2
    go_ret
    rw [show o = (k : Int) by rw [HON.out]; simp]
    exact ⟨rfl, H2.out.old⟩
  | true =>
    cases p with
    | false =>
      go_enter Try.func25, Try.ntmps25
      go_upto_region 1 with fail
      rw [HW0.out]
      go_upto_region 4 with fail
      rw [HW1.out]
      go_wp2_with (go_at_call 66; refine (Attr.rbit32 yb _ hby.1 hby.2).mono ?_; rintro e w' ⟨he, rfl⟩; rw [← HP.out] at he; subst he)
      go_ret
      rw [show o = a2 by rw [HON.out]; simp]
      exact ⟨rfl, H2.out.old⟩
    | true =>
      cases q with
      | false =>
        go_enter Try.func25, Try.ntmps25
        go_upto_region 1 with fail
        rw [HW0.out]
        go_upto_region 4 with fail
        rw [HW1.out]
        go_wp2_with (first
          | (go_at_call 66; (with_reducible refine (Attr.rbit32 yb _ hby.1 hby.2).mono ?_); rintro e w' ⟨he, rfl⟩; rw [← HP.out] at he; subst he)
          | (go_at_call 66; (with_reducible refine (Attr.rbit16 yb _ hby.1 hby.2).mono ?_); rintro e w' ⟨he, rfl⟩; rw [← HQQ.out] at he; subst he))
        go_ret
        rw [show o = a2 by rw [HON.out]; simp]
        exact ⟨rfl, H2.out.old⟩
      | true =>
        go_enter Try.func25, Try.ntmps25
        go_upto_region 1 with fail
        rw [HW0.out]
        go_upto_region 4 with fail
        rw [HW1.out]
        go_wp2_with (first
          | (go_at_call 66; (with_reducible refine (Attr.rbit32 yb _ hby.1 hby.2).mono ?_); rintro e w' ⟨he, rfl⟩; rw [← HP.out] at he; subst he)
          | (go_at_call 66; (with_reducible refine (Attr.rbit16 yb _ hby.1 hby.2).mono ?_); rintro e w' ⟨he, rfl⟩; rw [← HQQ.out] at he; subst he)
          | (go_at_call 21; (with_reducible refine HTB.out.mono ?_); rintro e w3 ⟨rfl, hb3⟩))
        go_ret
        rw [show o = t by rw [HON.out]; simp]
        exact ⟨rfl, H2.out.old.trans (hb3.mono H2.out.old.size)⟩
set_option maxRecDepth 100000 in
set_option maxHeartbeats 4000000 in
theorem rnl19_any {w : World} {gx n cap : Nat} {L : List Cl} (r c cur : Int) (hx : Rx w gx n cap L) (hbo : BoL L) (hcur : 0 ≤ cur ∧ cur < n) (hsz : cells r c = (n : Int)) : Calls Try.prog 23 #[xV r c (.slice (some ⟨gx, 0, none⟩) n cap) cur] w fun e W =>
    e = .returned (.int .i64 (nlL L c cur)) ∧ Below w.heap.size w W := by
  have hm := hx.most
  have hln : (L.length : Int) = n := by rw [hx.len]
  have hn1 : (1 : Int) ≤ (n : Int) := by omega
  have hn6 : (n : Int) ≤ 4096 := by omega
  obtain ⟨hrc, hr1, hr2, hc1, hc2⟩ := cells_pos r c _ hsz (by omega)
  obtain ⟨d, hd⟩ : ∃ d, d = cur.tdiv c := ⟨_, rfl⟩
  have hdb : 0 ≤ d ∧ d ≤ cur := by
    rw [hd, Int.tdiv_eq_ediv_of_nonneg hcur.1]
    exact ⟨Int.ediv_nonneg hcur.1 (by omega), Int.ediv_le_self c hcur.1⟩
  obtain ⟨fr, hfr⟩ : ∃ fr, fr = (d + 1) * c := ⟨_, rfl⟩
  have hdc : fr = cur + (c - cur.tmod c) := by
    have h := Int.mul_tdiv_add_tmod cur c
    rw [hfr, hd, Int.add_mul, Int.one_mul, Int.mul_comm]; omega
  have hcs : 0 ≤ cur.tmod c ∧ cur.tmod c < c := ⟨Int.tmod_nonneg _ hcur.1, (tmod_small cur c hc1).2⟩
  have hfb : 0 ≤ fr ∧ fr ≤ 5000 := by omega
  have hq0 : cur.tdiv c = d := hd.symm
  have hcz : (c == 0) = false := by rw [beq_eq_false_iff_ne]; omega
  have hw0 : IntKind.i64.wrap d = d := IntWalk.i64_in _ (by omega)
  have hw1 : IntKind.i64.wrap (d + 1) = d + 1 := IntWalk.i64_in _ (by omega)
  have hw2 : IntKind.i64.wrap ((d + 1) * c) = fr := by rw [← hfr]; exact IntWalk.i64_in _ (by omega)
  obtain ⟨f, hf⟩ : ∃ f, f = mv n fr 0 := ⟨_, rfl⟩
  have hfn : nlF n c cur = f := by
    unfold nlF
    rw [hf, mv_pos (by omega), mv_pos (by omega), hdc]; congr 1; omega
  have hfbd := mv_bd (n := n) (a := fr) (b := 0) hn1
  rw [← hf] at hfbd
  obtain ⟨y, hy⟩ : ∃ y, y = nlL L c cur := ⟨_, rfl⟩
  have hye : y = if opnL L f = true then f else tabL L f := by rw [hy]; unfold nlL; rw [hln, hfn]
  have hst : ∀ i : Nat, (fr + (i : Int)) % (n : Int) = step n f i := by
    intro i
    unfold step
    rw [hf, mv_pos (by omega), Int.emod_add_emod]; congr 1; omega
  rw [← hy]
  have HY := Lib.hid hye
  have HST := Lib.hid hst
  have h1 := R9Q.begin hx r c cur
  obtain ⟨W0, hW0⟩ : ∃ W0, W0 = w.alloc (.cells #[.int .i64 r, .int .i64 c, .slice (some ⟨gx, 0, none⟩) n cap, .int .i64 cur] 29) := ⟨_, rfl⟩
  rw [← hW0] at h1
  have H1 := Lib.hid h1
  have HW0 := Lib.hid hW0.symm
  have HBO := Lib.hid hbo
  obtain ⟨q0, q1, q2, q3, _⟩ := h1.q
  have hlL : L.length = n := hx.len
  have HLL := Lib.hid hlL
  have HFB := Lib.hid hfbd
  clear hx hbo hd hfr hdc hcs hf hfn hfbd hy hye hst h1 hW0 hsz hrc hlL
  unfold xV
  go_enter Try.func23, Try.ntmps23
  go_upto_region 1 with fail
  rw [HW0.out]
  go_wp2_with fail
  go_quiet (fail)
  go_wp2_with fail
  have HD := Lib.hid (R9Q.drew H1.out)
  clear q0 q1 q2 q3 hw0 hw1 hw2 hq0
  go_loopw [5] (fun p wr => ∃ i : Nat, p = .int .i64 i ∧ i ≤ n ∧ (∀ j, j < i → opnL L (step n f j) = false) ∧ R9Q w w.heap.size gx n cap r c cur L wr) (fun p _ => n - (intOf p).toNat)
  case atStart => exact ⟨0, rfl, Nat.zero_le _, fun j hj => absurd hj (Nat.not_lt_zero _), by first | exact HD.out | exact H1.out.below ⟨rfl, rfl, rfl, Nat.le_refl _, fun _ _ => rfl⟩⟩
  case round =>
    obtain ⟨i, rfl, hi, hno, hq⟩ := hrel
    have HQ := Lib.hid hq
    have HNO := Lib.hid hno
    obtain ⟨q0, q1, q2, q3, _⟩ := hq.q
    clear hno hq HD
    by_cases hin : i < n
    · have hin2 : (i : Int) < (n : Int) := by omega
      obtain ⟨z, hz⟩ : ∃ z, z = step n f i := ⟨_, rfl⟩
      have hsum : IntKind.i64.wrap (fr + (i : Int)) = fr + (i : Int) := IntWalk.i64_in _ (by omega)
      have hrem : (fr + (i : Int)).tmod (n : Int) = z := by rw [Int.tmod_eq_emod_of_nonneg (by omega), HST.out, hz]
      have hnz : (n = 0) = False := by rw [eq_iff_iff, iff_false]; omega
      have HZ := Lib.hid hz
      have hopn : ∀ X, R9Q w w.heap.size gx n cap r c cur L X → Calls Try.prog 64 #[.agg #[.int .i64 r, .int .i64 c, .slice (some ⟨gx, 0, none⟩) n cap, .int .i64 cur], .int .i64 z] X fun e W => e = .returned (.bool (opnL L z)) ∧ Below X.heap.size X W := fun X h => ropen_any r c cur z h.rx HBO.out
      have HOPN := Lib.hid hopn
      clear hopn
      obtain ⟨o, ho⟩ : ∃ o, o = opnL L z := ⟨_, rfl⟩
      have HO := Lib.hid ho
      clear hz ho
      go_wp2_with fail
      go_region_held3 (fun X => X.cell? ⟨w.heap.size, 0, none⟩ = some (.int .i64 r) ∧ X.cell? ⟨w.heap.size, 1, none⟩ = some (.int .i64 c) ∧ X.cell? ⟨w.heap.size, 2, none⟩ = some (.slice (some ⟨gx, 0, none⟩) n cap) ∧ X.cell? ⟨w.heap.size, 3, none⟩ = some (.int .i64 cur) ∧ R9Q w w.heap.size gx n cap r c cur L X)
        (with_reducible (first | assumption | exact R9Q.q HQ.out.drew | exact R9Q.q (by assumption)))
        (first | (go_at_call 64; (with_reducible refine (HOPN.out _ (R9Q.drew HQ.out)).mono ?_); rintro e w2 ⟨he, hb2⟩; rw [← HO.out] at he; subst he; have K2 := R9Q.below (R9Q.drew HQ.out) hb2; clear hb2))
      all_goals
        cases o with
        | true =>
          go_wp2
          go_ret
          refine ⟨?_, K2.old⟩
          have := nl_find (L := L) (f := f) HFB.out.1 (by rw [HLL.out]; exact HFB.out.2) (i := i) (by rw [HLL.out]; exact hin) (fun j hj => by rw [HLL.out]; exact HNO.out j hj) (by rw [HLL.out, ← HZ.out]; exact HO.out.symm)
          have e : y = z := by rw [HY.out, this, HLL.out, ← HZ.out]
          rw [e]; try rfl
        | false =>
          go_wp2
          go_roundw
          case rel => exact ⟨i + 1, by go_num, by omega, fun j hj => by
            rcases Nat.lt_or_ge j i with h | h
            · exact HNO.out j h
            · rw [show j = i by omega, ← HZ.out]; exact HO.out.symm, K2⟩
          case measure => simp [intOf]; omega
    · obtain rfl : n = i := by omega
      go_wp2
      go_ret
      refine ⟨?_, HQ.out.old⟩
      have e : y = 0 := by rw [HY.out, nl_nofind HFB.out.1 (by rw [HLL.out]; exact HFB.out.2) (fun j hj => by rw [HLL.out] at hj ⊢; exact HNO.out j hj)]
      rw [e]; try rfl
end Go.Proofs.Ytlcjiffnmpkndaa.Pl
