/-
  The reference of orders: Equal.
-/
import Derived.Test.YtjeknociobbhpaaDoorRef12A
namespace Go.Proofs.YtjeknociobbhpaaDoor.Ord
open Go.RowKit Base
set_option linter.unusedVariables false
set_option linter.unusedSimpArgs false

set_option maxRecDepth 100000 in
set_option maxHeartbeats 4000000 in
theorem requal_any {w : World} {a b : Or} {u v : Value} (h : OrR w a u) (k : OrR w b v) (ha : a.Ok) (hb : b.Ok) (hda : a.data.length ≤ 1000000) : Calls Tryd.prog 12 #[u, v] w fun e w' => e = .returned (.bool (sameO a b)) ∧ Below w.heap.size w w' := by
  obtain ⟨vp, vd, rfl, hp, hd⟩ := h
  obtain ⟨vp2, vd2, rfl, hp2, hd2⟩ := k
  obtain ⟨k1, a1, b1, g1, p1, d1⟩ := a
  obtain ⟨k2, a2, b2, g2, p2, d2⟩ := b
  simp only at hp hd hp2 hd2 hda
  have x1 := below_alloc w (.cells #[.int .u8 k1, .int .i64 a1, .int .u8 b1, .bool g1, vp, vd] 35)
  have y1 := heap_alloc_new w (.cells #[.int .u8 k1, .int .i64 a1, .int .u8 b1, .bool g1, vp, vd] 35)
  have z1 := World.size_alloc w (.cells #[.int .u8 k1, .int .i64 a1, .int .u8 b1, .bool g1, vp, vd] 35)
  obtain ⟨W1, hW1⟩ : ∃ W1, W1 = w.alloc (.cells #[.int .u8 k1, .int .i64 a1, .int .u8 b1, .bool g1, vp, vd] 35) := ⟨_, rfl⟩
  rw [← hW1] at x1 y1 z1
  have x2 := below_alloc W1 (.cells #[.int .u8 k2, .int .i64 a2, .int .u8 b2, .bool g2, vp2, vd2] 35)
  have y2 := heap_alloc_new W1 (.cells #[.int .u8 k2, .int .i64 a2, .int .u8 b2, .bool g2, vp2, vd2] 35)
  obtain ⟨W2, hW2⟩ : ∃ W2, W2 = W1.alloc (.cells #[.int .u8 k2, .int .i64 a2, .int .u8 b2, .bool g2, vp2, vd2] 35) := ⟨_, rfl⟩
  rw [← hW2] at x2 y2
  have y3 := (x2.block _ (lt_of_block y1)).trans y1
  obtain ⟨s, hs⟩ : ∃ s, s = w.heap.size := ⟨_, rfl⟩
  have hold : Below w.heap.size w W2 := x1.trans (x2.mono x1.size)
  have HP := Lib.hid (hp.below hold)
  have HP2 := Lib.hid (hp2.below hold)
  have HD := Lib.hid (hd.below hold)
  have HD2 := Lib.hid (hd2.below hold)
  obtain ⟨pa, pc, rfl⟩ := hp.form
  obtain ⟨pa2, pc2, rfl⟩ := hp2.form
  obtain ⟨da, dc, rfl, _⟩ := hd
  obtain ⟨da2, dc2, rfl, _⟩ := hd2
  rw [← hs] at y3
  rw [z1, ← hs] at y2
  obtain ⟨q0, q1, q2, q3, q4, q5, _⟩ := cells6 y3
  obtain ⟨r0, r1, r2, r3, r4, r5, _⟩ := cells6 y2
  have HW1 := Lib.hid hW1.symm
  have HW2 := Lib.hid hW2.symm
  have HS := Lib.hid hs.symm
  have HO := Lib.hid hold
  have HA := Lib.hid ha
  have HB := Lib.hid hb
  have HSM := Lib.hid (Base.same_any _ _ d1 d2 W2 HD.out HD2.out (by unfold maxLen; omega))
  obtain ⟨R, hR⟩ : ∃ R, R = sameO ⟨k1, a1, b1, g1, p1, d1⟩ ⟨k2, a2, b2, g2, p2, d2⟩ := ⟨_, rfl⟩
  rw [← hR]
  unfold sameO at hR
  simp only at hR
  have HY1 := Lib.hid y3
  have HY2 := Lib.hid y2
  clear x1 y1 z1 x2 y2 y3 hW1 hW2 hs hold hp hp2 ha hb
  by_cases e1 : k1 = k2
  case neg =>
    have t1 : (k1 == k2) = false := by simpa using e1
    have s1 : (k1 != k2) = true := by simpa using e1
    rw [decide_eq_false e1] at hR
    obtain rfl : R = false := by simpa using hR
    clear hR e1
    go_enter Tryd.func12, Tryd.ntmps12
    go_upto_region 1 with fail
    rw [HW1.out, HW2.out, HS.out]
    go_wp2_with fail
    go_ret
    exact ⟨rfl, HO.out⟩
  subst e1
  by_cases e2 : a1 = a2
  case neg =>
    have t2 : (a1 == a2) = false := by simpa using e2
    have s2 : (a1 != a2) = true := by simpa using e2
    rw [decide_eq_false e2] at hR
    obtain rfl : R = false := by simpa using hR
    clear hR e2
    go_enter Tryd.func12, Tryd.ntmps12
    go_upto_region 1 with fail
    rw [HW1.out, HW2.out, HS.out]
    go_wp2_with fail
    go_ret
    exact ⟨rfl, HO.out⟩
  subst e2
  by_cases e3 : b1 = b2
  case neg =>
    have t3 : (b1 == b2) = false := by simpa using e3
    have s3 : (b1 != b2) = true := by simpa using e3
    rw [decide_eq_false e3] at hR
    obtain rfl : R = false := by simpa using hR
    clear hR e3
    go_enter Tryd.func12, Tryd.ntmps12
    go_upto_region 1 with fail
    rw [HW1.out, HW2.out, HS.out]
    go_wp2_with fail
    go_ret
    exact ⟨rfl, HO.out⟩
  subst e3
  by_cases e4 : g1 = g2
  case neg =>
    rw [decide_eq_false e4] at hR
    obtain rfl : R = false := by simpa using hR
    clear hR
    cases g1 <;> cases g2
    case false.false => exact absurd rfl e4
    case true.true => exact absurd rfl e4
    all_goals
     clear e4
     go_enter Tryd.func12, Tryd.ntmps12
     go_upto_region 1 with fail
     rw [HW1.out, HW2.out, HS.out]
     go_wp2_with fail
     go_ret
     exact ⟨rfl, HO.out⟩
  subst e4
  replace hR : R = (decide (p1 = p2) && decide (d1 = d2)) := by simpa using hR
  by_cases e5 : p1.length = p2.length
  case neg =>
    have t5 : ((p1.length : Int) == (p2.length : Int)) = false := by simp; omega
    have s5 : ((p1.length : Int) != (p2.length : Int)) = true := by simp; omega
    obtain rfl : R = false := by rw [hR, decide_eq_false (fun e => e5 (by rw [e]))]; rfl
    clear hR e5
    go_enter Tryd.func12, Tryd.ntmps12
    go_upto_region 1 with fail
    rw [HW1.out, HW2.out, HS.out]
    go_wp2_with fail
    go_ret
    exact ⟨rfl, HO.out⟩
  obtain ⟨n, hn⟩ : ∃ n, n = p1.length := ⟨_, rfl⟩
  have hn2 : n = p2.length := hn.trans e5
  have HN := Lib.hid hn
  have HN2 := Lib.hid hn2
  rw [← hn2] at e5 HP2 HW2 HY2 r4 ⊢
  rw [← hn] at HP HW1 HY1 q4 ⊢
  have hm : n ≤ 1000000 := by rw [hn]; exact HA.out.ps
  clear e5 hn hn2
  by_cases e6 : d1 = d2
  case neg =>
    rw [decide_eq_false e6] at HSM hR
    obtain rfl : R = false := by simpa using hR
    clear hR e6
    go_enter Tryd.func12, Tryd.ntmps12
    go_upto_region 1 with fail
    rw [HW1.out, HW2.out, HS.out]
    go_wp2_with fail
    refine HSM.out.mono ?_
    rintro e w' ⟨rfl, m, rfl⟩
    go_wp2_with fail
    go_ret
    exact ⟨rfl, below_drewN HO.out m⟩
  rw [decide_eq_true e6] at HSM hR
  replace hR : R = decide (p1 = p2) := by simpa using hR
  have HR := Lib.hid hR
  have HCP : Hid (∀ m, PrAt (W2.drewN m) (.slice pa n pc) p1) := Lib.hid fun m => HP.out.below (below_drewN (Below.refl _ _) m)
  have HCP2 : Hid (∀ m, PrAt (W2.drewN m) (.slice pa2 n pc2) p2) := Lib.hid fun m => HP2.out.below (below_drewN (Below.refl _ _) m)
  obtain ⟨_, _, ep, hcp⟩ := HP.out
  obtain ⟨_, _, ep2, hcp2⟩ := HP2.out
  injection ep with ea eb ec
  injection ep2 with ea2 eb2 ec2
  clear eb eb2
  subst ea ec ea2 ec2
  have HC := Lib.hid hcp
  have HC2 := Lib.hid hcp2
  clear hR e6 hcp hcp2 HP HP2
  go_enter Tryd.func12, Tryd.ntmps12
  go_upto_region 1 with fail
  rw [HW1.out, HW2.out, HS.out]
  go_wp2_with fail
  refine HSM.out.mono ?_
  rintro e w' ⟨rfl, m0, rfl⟩
  go_upto_region 4 with fail
  go_loopw [5] (fun i wr => ∃ k : Nat, k ≤ n ∧ i = .int .i64 k ∧ Hid (p1.take k = p2.take k) ∧ ∃ m, wr = W2.drewN m) (fun i _ => n - (intOf i).toNat)
  case atStart => exact ⟨0, by omega, rfl, Lib.hid (by simp), m0, rfl⟩
  case round =>
    obtain ⟨k, hk, rfl, hsame, m, rfl⟩ := hrel
    by_cases hkn : k < n
    · have hkni : (k : Int) < (n : Int) := by omega
      have hk0 : (0 : Int) ≤ (k : Int) := Int.natCast_nonneg _
      obtain ⟨p, hp⟩ : ∃ p, p1[k]? = some p := ⟨_, List.getElem?_eq_getElem (by rw [← HN.out]; exact hkn)⟩
      obtain ⟨q, hq2⟩ : ∃ q, p2[k]? = some q := ⟨_, List.getElem?_eq_getElem (by rw [← HN2.out]; exact hkn)⟩
      obtain ⟨g, off, rfl, hc⟩ := HC.out (by intro e; rw [e] at hp; simp at hp)
      obtain ⟨g2, off2, rfl, hc2⟩ := HC2.out (by intro e; rw [e] at hq2; simp at hq2)
      obtain ⟨d0, d1'⟩ := hc k p hp
      obtain ⟨e0, e1'⟩ := hc2 k q hq2
      have D := Lib.hid hp
      have E := Lib.hid hq2
      obtain ⟨x1, x2⟩ := p
      obtain ⟨y1, y2⟩ := q
      simp only at d0 d1' e0 e1'
      clear hp hq2 hc hc2
      by_cases hpq : x1 = y1 ∧ x2 = y2
      · obtain ⟨rfl, rfl⟩ := hpq
        have hnext : Hid (p1.take (k + 1) = p2.take (k + 1)) := Lib.hid (by
          rw [List.take_add_one, List.take_add_one, hsame.out, D.out, E.out])
        go_upto_region 6 with fail
        go_quiet (fail)
        go_wp2_with fail
        go_roundw
        case rel => exact ⟨k + 1, by omega, by go_num, hnext, m + nq, rfl⟩
        case measure => simp [intOf]; omega
      · have hBf : R = false := by
          rw [HR.out]
          apply decide_eq_false
          intro e
          have h1 := D.out
          rw [e, E.out] at h1
          injection h1 with h1
          injection h1 with h1 h2
          exact hpq ⟨h1.symm, h2.symm⟩
        subst hBf
        by_cases h1 : x1 = y1
        · subst h1
          have h2 : (x2 == y2) = false := by simp; exact fun e => hpq ⟨rfl, e⟩
          clear hpq
          go_upto_region 6 with fail
          go_quiet (fail)
          go_wp2_with fail
          go_ret
          exact ⟨rfl, below_drewN (below_drewN HO.out m) nq⟩
        · have h2 : (x1 == y1) = false := by simpa using h1
          clear hpq h1
          go_upto_region 6 with fail
          go_quiet (fail)
          go_wp2_with fail
          go_ret
          exact ⟨rfl, below_drewN (below_drewN HO.out m) nq⟩
    · obtain rfl : n = k := by omega
      have hBt : R = true := by
        rw [HR.out]
        apply decide_eq_true
        have := hsame.out
        rwa [List.take_of_length_le (by rw [← HN.out]; exact Nat.le_refl _), List.take_of_length_le (by rw [← HN2.out]; exact Nat.le_refl _)] at this
      subst hBt
      go_wp2_with fail
      go_ret
      exact ⟨rfl, below_drewN HO.out m⟩
end Go.Proofs.YtjeknociobbhpaaDoor.Ord
