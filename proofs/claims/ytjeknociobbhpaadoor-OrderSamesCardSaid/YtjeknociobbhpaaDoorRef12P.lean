/-
  The reference of orders: Copy, Plain, Equal.
  The reference of orders: Equal.
  The reference of orders: pairs.
  Orders, plainly: what each kind has behind it.
-/
import Derived.Test.YtjeknociobbhpaaDoorOrdM
import Derived.Test.YtjeknociobbhpaaDoorSame
import Derived.StillTailTactics
import Derived.Test.YtjeknociobbhpaaDoorOrdQ
import Derived.Test.YtjeknociobbhpaaDoorDigB
namespace Go.Proofs.YtjeknociobbhpaaDoor.Ord
open Go.RowKit Base
set_option linter.unusedVariables false
set_option linter.unusedSimpArgs false

theorem empty_bytes (W : World) : OwnBytes W.heap.size (W.alloc (.cells #[] 5)) (.slice (some ⟨W.heap.size, 0, none⟩) 0 0) [] :=
  ⟨rfl, .inr ⟨W.heap.size, 0, #[], rfl, Nat.le_refl _, heap_alloc_new W _, Nat.le_refl _, by simp [maxLen], rfl, rfl⟩⟩
set_option maxRecDepth 100000 in
set_option maxHeartbeats 2000000 in
theorem rcopy_any (v : Value) (L : List Int) (w : World) (h : RowOf .u8 w v L) (hm : L.length ≤ 1000000) : Calls Tryd.prog 8 #[v] w fun e w' => ∃ u, e = .returned u ∧ OwnBytes w.heap.size w' u L ∧ Below w.heap.size w w' := by
  obtain ⟨s, hs⟩ : ∃ s, s = w.heap.size := ⟨_, rfl⟩
  have h0 := empty_bytes w
  have hb0 := below_alloc w (.cells #[] 5)
  obtain ⟨W0, hW0⟩ : ∃ W0, W0 = w.alloc (.cells #[] 5) := ⟨_, rfl⟩
  rw [← hW0, ← hs] at h0
  rw [← hW0] at hb0
  have hr := h.lowK
  obtain ⟨a, c, rfl, _⟩ := h
  obtain ⟨n, hn⟩ : ∃ n, n = L.length := ⟨_, rfl⟩
  rw [← hn] at hm hr ⊢
  have HR := Lib.hid hr
  have HN := Lib.hid hn
  have HS := Lib.hid hs
  have H0 := Lib.hid h0
  have HB0 := Lib.hid hb0
  have HW0 := Lib.hid hW0.symm
  rw [← hs]
  clear hr hn hs h0 hb0 hW0
  go_enter Tryd.func8, Tryd.ntmps8
  go_upto_region 3 with fail
  rw [HW0.out, ← HS.out]
  go_loopw [3, 4] (fun v i wr => ∃ j : Nat, j ≤ n ∧ i = .int .i64 j ∧ OwnBytes s wr v (L.take j) ∧ Below s w wr) (fun _ i _ => n - (intOf i).toNat)
  case atStart => exact ⟨0, by omega, rfl, by simpa using H0.out, by rw [HS.out]; exact HB0.out⟩
  case round =>
    obtain ⟨j, hj, rfl, hown, hold⟩ := hrel
    by_cases hjn : j < n
    · have hjni : (j : Int) < (n : Int) := by omega
      have hj0 : (0 : Int) ≤ (j : Int) := Int.natCast_nonneg _
      obtain ⟨x, hxx⟩ : ∃ x, L[j]? = some x := ⟨_, List.getElem?_eq_getElem (by rw [← HN.out]; exact hjn)⟩
      have hold' : Below w.heap.size w wr := by rw [← HS.out]; exact hold
      obtain ⟨_, _, e, hc⟩ := (HR.out.below hold').row
      injection e with e1 e2 e3
      clear e2
      subst e1 e3
      obtain ⟨gg, off, rfl, hcc⟩ := hc (by intro e; rw [e] at hxx; simp at hxx)
      have hd := hcc j (by rw [← HN.out]; exact hjn)
      rw [hxx] at hd
      simp only [Option.getD_some] at hd
      have HOW := Lib.hid hown
      have HOL := Lib.hid hold
      have HX := Lib.hid hxx
      have HSZ : Hid (s ≤ wr.heap.size) := Lib.hid (by rw [HS.out]; exact hold'.size)
      have HTL : Hid ((L.take j).length = j) := Lib.hid (by rw [List.length_take]; have := HN.out; omega)
      clear hxx hc hcc hown hold hold'
      go_wp2_with (at_builtin; go_loud (refine append_row rfl _ _ rfl (HOW.out.below (below_alloc _ _)) (row_one8 _ _ _) (fun _ _ h => by cases h) rfl rfl (by have := HTL.out; simp only [List.length_singleton]; omega) (by rw [World.size_alloc]; have := HSZ.out; omega) (w0 := w) (HOL.out.alloc HSZ.out _) ?_); intro v9 W9 hown hold _ _; have HO9 := Lib.hid hown; have HL9 := Lib.hid hold; clear hown hold)
      go_roundw
      case rel => exact ⟨j + 1, by omega, by go_num, by rw [List.take_add_one, HX.out]; exact HO9.out, HL9.out⟩
      case measure => simp [intOf]; omega
    · obtain rfl : n = j := by omega
      rw [List.take_of_length_le (by rw [← HN.out]; exact Nat.le_refl _)] at hown
      have HOW := Lib.hid hown
      have HOL := Lib.hid hold
      clear hown hold
      go_wp2_with fail
      go_ret
      exact ⟨_, rfl, HOW.out, HOL.out⟩
def plainT : List Int := [0, 12, 13, 21, 25, 28, 30, 63]
theorem plainT_yes : ∀ j, j < 8 → plain (plainT[j]?.getD 0) = true := by decide
theorem plainT_no (b : Int) (hb : b < 64) (h : ∀ q, q < 8 → plainT[q]?.getD 0 ≠ b) : plain b = false := by
  have h0 := h 0 (by omega); have h1 := h 1 (by omega); have h2 := h 2 (by omega); have h3 := h 3 (by omega)
  have h4 := h 4 (by omega); have h5 := h 5 (by omega); have h6 := h 6 (by omega); have h7 := h 7 (by omega)
  simp [plainT] at h0 h1 h2 h3 h4 h5 h6 h7
  simp [plain]
  omega
theorem plainT_row (w : World) : RowOf .u8 (w.alloc (.cells #[.int .u8 0, .int .u8 12, .int .u8 13, .int .u8 21, .int .u8 25, .int .u8 28, .int .u8 30, .int .u8 63] 5)) (.slice (some ⟨w.heap.size, 0, none⟩) 8 8) plainT := by
  have h := heap_alloc_new w (.cells #[.int .u8 0, .int .u8 12, .int .u8 13, .int .u8 21, .int .u8 25, .int .u8 28, .int .u8 30, .int .u8 63] 5)
  refine ⟨_, 8, rfl, fun _ => ⟨_, 0, rfl, fun i hi => ?_⟩⟩
  have hi : i < 8 := hi
  unfold World.cell?
  rw [h]
  rcases (by omega : i = 0 ∨ i = 1 ∨ i = 2 ∨ i = 3 ∨ i = 4 ∨ i = 5 ∨ i = 6 ∨ i = 7) with rfl | rfl | rfl | rfl | rfl | rfl | rfl | rfl <;> rfl
set_option maxRecDepth 100000 in
set_option maxHeartbeats 2000000 in
theorem rplain_any (b : Int) (w : World) : Calls Tryd.prog 14 #[.int .u8 b] w fun e w' => e = .returned (.bool (plain b)) ∧ Below w.heap.size w w' := by
  by_cases h64 : 64 ≤ b
  · have : plain b = true := by simp [plain]; omega
    rw [this]
    clear this
    go_enter Tryd.func14, Tryd.ntmps14
    go_wp2_with fail
    go_ret
    exact ⟨rfl, Below.refl _ _⟩
  have hr := plainT_row w
  have hb := below_alloc w (.cells #[.int .u8 0, .int .u8 12, .int .u8 13, .int .u8 21, .int .u8 25, .int .u8 28, .int .u8 30, .int .u8 63] 5)
  obtain ⟨W1, hW1⟩ : ∃ W1, W1 = w.alloc (.cells #[.int .u8 0, .int .u8 12, .int .u8 13, .int .u8 21, .int .u8 25, .int .u8 28, .int .u8 30, .int .u8 63] 5) := ⟨_, rfl⟩
  rw [← hW1] at hr hb
  obtain ⟨g, hg⟩ : ∃ g, g = w.heap.size := ⟨_, rfl⟩
  rw [← hg] at hr
  have HR := Lib.hid hr
  have HB := Lib.hid hb
  have HW1 := Lib.hid hW1.symm
  have HG := Lib.hid hg.symm
  have HLT : Hid (b < 64) := Lib.hid (by omega)
  obtain ⟨R, hR⟩ : ∃ R, R = plain b := ⟨_, rfl⟩
  rw [← hR]
  have HRR := Lib.hid hR
  clear hr hb hW1 hg hR
  go_enter Tryd.func14, Tryd.ntmps14
  go_upto_region 5 with fail
  rw [HW1.out, HG.out]
  go_loopw [4] (fun i wr => ∃ j : Nat, j ≤ 8 ∧ i = .int .i64 j ∧ Hid (∀ q, q < j → plainT[q]?.getD 0 ≠ b) ∧ Hid (wr = W1)) (fun i _ => 8 - (intOf i).toNat)
  case atStart => exact ⟨0, by omega, rfl, Lib.hid (fun q h => absurd h (by omega)), Lib.hid rfl⟩
  case round =>
    obtain ⟨j, hj, rfl, hno, hw⟩ := hrel
    obtain rfl := hw.out
    clear hw
    by_cases hj8 : j < 8
    · have hji : (j : Int) < 8 := by omega
      have hj0 : (0 : Int) ≤ (j : Int) := Int.natCast_nonneg _
      obtain ⟨_, _, e, hc⟩ := HR.out
      obtain ⟨g', off, e4, hcc⟩ := hc (by simp [plainT])
      injection e with e1 e2 e3
      rw [← e1] at e4
      injection e4 with e4
      injection e4 with e5 e6 _
      have hd := hcc j hj8
      rw [← e5, ← e6, Nat.zero_add] at hd
      obtain ⟨x, hx⟩ : ∃ x, x = plainT[j]?.getD 0 := ⟨_, rfl⟩
      rw [← hx] at hd
      have HX := Lib.hid hx
      clear e1 e2 e3 e5 e6 hcc hc hx
      by_cases hxb : x = b
      · subst hxb
        obtain rfl : R = true := by rw [HRR.out, HX.out]; exact plainT_yes j hj8
        go_wp2_with fail
        go_ret
        exact ⟨rfl, HB.out⟩
      · have hxe : (x == b) = false := by simpa using hxb
        have HNX := Lib.hid hxb
        clear hxb
        go_wp2_with fail
        go_roundw
        case rel => exact ⟨j + 1, by omega, by go_num, Lib.hid (fun q hq => by
          by_cases hqj : q = j
          · subst hqj; rw [← HX.out]; exact HNX.out
          · exact hno.out q (by omega)), Lib.hid (by trivial)⟩
        case measure => simp [intOf]; omega
    · obtain rfl : j = 8 := by omega
      obtain rfl : R = false := by rw [HRR.out]; exact plainT_no b HLT.out hno.out
      go_wp2_with fail
      go_ret
      exact ⟨rfl, HB.out⟩
end Go.Proofs.YtjeknociobbhpaaDoor.Ord
namespace Go.Proofs.YtjeknociobbhpaaDoor.Ord
open Go.RowKit Base
set_option linter.unusedVariables false
set_option linter.unusedSimpArgs false

set_option maxRecDepth 100000 in
set_option maxHeartbeats 4000000 in
theorem requal_any {w : World} {a b : Or} {u v : Value} (h : OrR w a u) (k : OrR w b v) (ha : a.Ok) (hb : b.Ok) (hda : a.data.length ≤ 1000000) : Calls Tryd.prog 12 #[u, v] w fun e w' => e = .returned (.bool (sameO a b)) ∧ Below w.heap.size w w' := by
  obtain ⟨vp, vd, rfl, hp, hd⟩ := h
  obtain ⟨vp2, vd2, rfl, hp2, hd2⟩ := k
  obtain ⟨k1, a1, b1, g1, p1, d1⟩ := a
  obtain ⟨k2, a2, b2, g2, p2, d2⟩ := b
  simp only at hp hd hp2 hd2 hda
  have x1 := below_alloc w (.cells #[.int .u8 k1, .int .i64 a1, .int .u8 b1, .bool g1, vp, vd] 35)
  have y1 := heap_alloc_new w (.cells #[.int .u8 k1, .int .i64 a1, .int .u8 b1, .bool g1, vp, vd] 35)
  have z1 := World.size_alloc w (.cells #[.int .u8 k1, .int .i64 a1, .int .u8 b1, .bool g1, vp, vd] 35)
  obtain ⟨W1, hW1⟩ : ∃ W1, W1 = w.alloc (.cells #[.int .u8 k1, .int .i64 a1, .int .u8 b1, .bool g1, vp, vd] 35) := ⟨_, rfl⟩
  rw [← hW1] at x1 y1 z1
  have x2 := below_alloc W1 (.cells #[.int .u8 k2, .int .i64 a2, .int .u8 b2, .bool g2, vp2, vd2] 35)
  have y2 := heap_alloc_new W1 (.cells #[.int .u8 k2, .int .i64 a2, .int .u8 b2, .bool g2, vp2, vd2] 35)
  obtain ⟨W2, hW2⟩ : ∃ W2, W2 = W1.alloc (.cells #[.int .u8 k2, .int .i64 a2, .int .u8 b2, .bool g2, vp2, vd2] 35) := ⟨_, rfl⟩
  rw [← hW2] at x2 y2
  have y3 := (x2.block _ (lt_of_block y1)).trans y1
  obtain ⟨s, hs⟩ : ∃ s, s = w.heap.size := ⟨_, rfl⟩
  have hold : Below w.heap.size w W2 := x1.trans (x2.mono x1.size)
  have HP := Lib.hid (hp.below hold)
  have HP2 := Lib.hid (hp2.below hold)
  have HD := Lib.hid (hd.below hold)
  have HD2 := Lib.hid (hd2.below hold)
  obtain ⟨pa, pc, rfl⟩ := hp.form
  obtain ⟨pa2, pc2, rfl⟩ := hp2.form
  obtain ⟨da, dc, rfl, _⟩ := hd
  obtain ⟨da2, dc2, rfl, _⟩ := hd2
  rw [← hs] at y3
  rw [z1, ← hs] at y2
  obtain ⟨q0, q1, q2, q3, q4, q5, _⟩ := cells6 y3
  obtain ⟨r0, r1, r2, r3, r4, r5, _⟩ := cells6 y2
  have HW1 := Lib.hid hW1.symm
  have HW2 := Lib.hid hW2.symm
  have HS := Lib.hid hs.symm
  have HO := Lib.hid hold
  have HA := Lib.hid ha
  have HB := Lib.hid hb
  have HSM := Lib.hid (Base.same_any _ _ d1 d2 W2 HD.out HD2.out (by unfold maxLen; omega))
  obtain ⟨R, hR⟩ : ∃ R, R = sameO ⟨k1, a1, b1, g1, p1, d1⟩ ⟨k2, a2, b2, g2, p2, d2⟩ := ⟨_, rfl⟩
  rw [← hR]
  unfold sameO at hR
  simp only at hR
  have HY1 := Lib.hid y3
  have HY2 := Lib.hid y2
  clear x1 y1 z1 x2 y2 y3 hW1 hW2 hs hold hp hp2 ha hb
  by_cases e1 : k1 = k2
  case neg =>
    have t1 : (k1 == k2) = false := by simpa using e1
    have s1 : (k1 != k2) = true := by simpa using e1
    rw [decide_eq_false e1] at hR
    obtain rfl : R = false := by simpa using hR
    clear hR e1
    go_enter Tryd.func12, Tryd.ntmps12
    go_upto_region 1 with fail
    rw [HW1.out, HW2.out, HS.out]
    go_wp2_with fail
    go_ret
    exact ⟨rfl, HO.out⟩
  subst e1
  by_cases e2 : a1 = a2
  case neg =>
    have t2 : (a1 == a2) = false := by simpa using e2
    have s2 : (a1 != a2) = true := by simpa using e2
    rw [decide_eq_false e2] at hR
    obtain rfl : R = false := by simpa using hR
    clear hR e2
    go_enter Tryd.func12, Tryd.ntmps12
    go_upto_region 1 with fail
    rw [HW1.out, HW2.out, HS.out]
    go_wp2_with fail
    go_ret
    exact ⟨rfl, HO.out⟩
  subst e2
  by_cases e3 : b1 = b2
  case neg =>
    have t3 : (b1 == b2) = false := by simpa using e3
    have s3 : (b1 != b2) = true := by simpa using e3
    rw [decide_eq_false e3] at hR
    obtain rfl : R = false := by simpa using hR
    clear hR e3
    go_enter Tryd.func12, Tryd.ntmps12
    go_upto_region 1 with fail
    rw [HW1.out, HW2.out, HS.out]
    go_wp2_with fail
    go_ret
    exact ⟨rfl, HO.out⟩
  subst e3
  by_cases e4 : g1 = g2
  case neg =>
    rw [decide_eq_false e4] at hR
    obtain rfl : R = false := by simpa using hR
    clear hR
    cases g1 <;> cases g2
    case false.false => exact absurd rfl e4
    case true.true => exact absurd rfl e4
    all_goals
     clear e4
     go_enter Tryd.func12, Tryd.ntmps12
     go_upto_region 1 with fail
     rw [HW1.out, HW2.out, HS.out]
     go_wp2_with fail
     go_ret
     exact ⟨rfl, HO.out⟩
  subst e4
  replace hR : R = (decide (p1 = p2) && decide (d1 = d2)) := by simpa using hR
  by_cases e5 : p1.length = p2.length
  case neg =>
    have t5 : ((p1.length : Int) == (p2.length : Int)) = false := by simp; omega
    have s5 : ((p1.length : Int) != (p2.length : Int)) = true := by simp; omega
    obtain rfl : R = false := by rw [hR, decide_eq_false (fun e => e5 (by rw [e]))]; rfl
    clear hR e5
    go_enter Tryd.func12, Tryd.ntmps12
    go_upto_region 1 with fail
    rw [HW1.out, HW2.out, HS.out]
    go_wp2_with fail
    go_ret
    exact ⟨rfl, HO.out⟩
  obtain ⟨n, hn⟩ : ∃ n, n = p1.length := ⟨_, rfl⟩
  have hn2 : n = p2.length := hn.trans e5
  have HN := Lib.hid hn
  have HN2 := Lib.hid hn2
  rw [← hn2] at e5 HP2 HW2 HY2 r4 ⊢
  rw [← hn] at HP HW1 HY1 q4 ⊢
  have hm : n ≤ 1000000 := by rw [hn]; exact HA.out.ps
  clear e5 hn hn2
  by_cases e6 : d1 = d2
  case neg =>
    rw [decide_eq_false e6] at HSM hR
    obtain rfl : R = false := by simpa using hR
    clear hR e6
    go_enter Tryd.func12, Tryd.ntmps12
    go_upto_region 1 with fail
    rw [HW1.out, HW2.out, HS.out]
    go_wp2_with fail
    refine HSM.out.mono ?_
    rintro e w' ⟨rfl, m, rfl⟩
    go_wp2_with fail
    go_ret
    exact ⟨rfl, below_drewN HO.out m⟩
  rw [decide_eq_true e6] at HSM hR
  replace hR : R = decide (p1 = p2) := by simpa using hR
  have HR := Lib.hid hR
  have HCP : Hid (∀ m, PrAt (W2.drewN m) (.slice pa n pc) p1) := Lib.hid fun m => HP.out.below (below_drewN (Below.refl _ _) m)
  have HCP2 : Hid (∀ m, PrAt (W2.drewN m) (.slice pa2 n pc2) p2) := Lib.hid fun m => HP2.out.below (below_drewN (Below.refl _ _) m)
  obtain ⟨_, _, ep, hcp⟩ := HP.out
  obtain ⟨_, _, ep2, hcp2⟩ := HP2.out
  injection ep with ea eb ec
  injection ep2 with ea2 eb2 ec2
  clear eb eb2
  subst ea ec ea2 ec2
  have HC := Lib.hid hcp
  have HC2 := Lib.hid hcp2
  clear hR e6 hcp hcp2 HP HP2
  go_enter Tryd.func12, Tryd.ntmps12
  go_upto_region 1 with fail
  rw [HW1.out, HW2.out, HS.out]
  go_wp2_with fail
  refine HSM.out.mono ?_
  rintro e w' ⟨rfl, m0, rfl⟩
  go_upto_region 4 with fail
  go_loopw [5] (fun i wr => ∃ k : Nat, k ≤ n ∧ i = .int .i64 k ∧ Hid (p1.take k = p2.take k) ∧ ∃ m, wr = W2.drewN m) (fun i _ => n - (intOf i).toNat)
  case atStart => exact ⟨0, by omega, rfl, Lib.hid (by simp), m0, rfl⟩
  case round =>
    obtain ⟨k, hk, rfl, hsame, m, rfl⟩ := hrel
    by_cases hkn : k < n
    · have hkni : (k : Int) < (n : Int) := by omega
      have hk0 : (0 : Int) ≤ (k : Int) := Int.natCast_nonneg _
      obtain ⟨p, hp⟩ : ∃ p, p1[k]? = some p := ⟨_, List.getElem?_eq_getElem (by rw [← HN.out]; exact hkn)⟩
      obtain ⟨q, hq2⟩ : ∃ q, p2[k]? = some q := ⟨_, List.getElem?_eq_getElem (by rw [← HN2.out]; exact hkn)⟩
      obtain ⟨g, off, rfl, hc⟩ := HC.out (by intro e; rw [e] at hp; simp at hp)
      obtain ⟨g2, off2, rfl, hc2⟩ := HC2.out (by intro e; rw [e] at hq2; simp at hq2)
      obtain ⟨d0, d1'⟩ := hc k p hp
      obtain ⟨e0, e1'⟩ := hc2 k q hq2
      have D := Lib.hid hp
      have E := Lib.hid hq2
      obtain ⟨x1, x2⟩ := p
      obtain ⟨y1, y2⟩ := q
      simp only at d0 d1' e0 e1'
      clear hp hq2 hc hc2
      by_cases hpq : x1 = y1 ∧ x2 = y2
      · obtain ⟨rfl, rfl⟩ := hpq
        have hnext : Hid (p1.take (k + 1) = p2.take (k + 1)) := Lib.hid (by
          rw [List.take_add_one, List.take_add_one, hsame.out, D.out, E.out])
        go_upto_region 6 with fail
        go_quiet (fail)
        go_wp2_with fail
        go_roundw
        case rel => exact ⟨k + 1, by omega, by go_num, hnext, m + nq, rfl⟩
        case measure => simp [intOf]; omega
      · have hBf : R = false := by
          rw [HR.out]
          apply decide_eq_false
          intro e
          have h1 := D.out
          rw [e, E.out] at h1
          injection h1 with h1
          injection h1 with h1 h2
          exact hpq ⟨h1.symm, h2.symm⟩
        subst hBf
        by_cases h1 : x1 = y1
        · subst h1
          have h2 : (x2 == y2) = false := by simp; exact fun e => hpq ⟨rfl, e⟩
          clear hpq
          go_upto_region 6 with fail
          go_quiet (fail)
          go_wp2_with fail
          go_ret
          exact ⟨rfl, below_drewN (below_drewN HO.out m) nq⟩
        · have h2 : (x1 == y1) = false := by simpa using h1
          clear hpq h1
          go_upto_region 6 with fail
          go_quiet (fail)
          go_wp2_with fail
          go_ret
          exact ⟨rfl, below_drewN (below_drewN HO.out m) nq⟩
    · obtain rfl : n = k := by omega
      have hBt : R = true := by
        rw [HR.out]
        apply decide_eq_true
        have := hsame.out
        rwa [List.take_of_length_le (by rw [← HN.out]; exact Nat.le_refl _), List.take_of_length_le (by rw [← HN2.out]; exact Nat.le_refl _)] at this
      subst hBt
      go_wp2_with fail
      go_ret
      exact ⟨rfl, below_drewN HO.out m⟩
end Go.Proofs.YtjeknociobbhpaaDoor.Ord
namespace Go.Proofs.YtjeknociobbhpaaDoor.Ord
open Go.RowKit Base
set_option linter.unusedVariables false
set_option linter.unusedSimpArgs false

def errR {α : Type} : Rd α → Int | .ok _ _ => 0 | .bad f => errOf (some f)
theorem errR_pre (A : List (Int × Int)) (r : Rd (List (Int × Int))) : errR (r.pre A) = errR r := by cases r <;> rfl
theorem pairM_short {L : List Int} {kind : Int} {i : Nat} (h : L.length ≤ i + 1) : pairM L kind i = .bad .short := by
  unfold pairM
  rcases Nat.lt_or_ge i L.length with hi | hi
  · rw [nx_lt hi]
    show (nx L (i + 1)).andThen _ = _
    rw [nx_end h]; rfl
  · rw [nx_end hi]; rfl
theorem pairM_at {L : List Int} {kind x y : Int} {i : Nat} (hx : L[i]? = some x) (hy : L[i + 1]? = some y) : pairM L kind i = if Attr.chk kind x y = true then .ok (x, y) (i + 2) else .bad .unfit := by
  unfold pairM nx
  rw [hx]
  show (match L[i + 1]? with | some b => Rd.ok b (i + 1 + 1) | Option.none => .bad .short).andThen _ = _
  rw [hy]
  show (if Attr.chk kind x y = true then _ else _) = _
  rfl
theorem empty_pairs (W : World) : PairRow W.heap.size (W.alloc (.cells #[] 58)) (.slice (some ⟨W.heap.size, 0, none⟩) 0 0) [] :=
  ⟨rfl, .inr ⟨W.heap.size, 0, #[], rfl, Nat.le_refl _, heap_alloc_new W _, Nat.le_refl _, by simp [maxLen], rfl, rfl⟩⟩
/-- The pairs so far. -/
structure RPQ (s : Nat) (w : World) (L : List Int) (kind : Int) (R : Rd (List (Int × Int))) (at_ n k : Nat) (v : Value) (wr : World) : Prop where
  ex : ∃ ps, ps.length = k ∧ R = (pairsM L kind (n - k) (at_ + 2 * k)).pre ps ∧ PairRow s wr v ps
  old : Below s w wr
def RPairK (s : Nat) (w : World) (R : Rd (List (Int × Int))) (e : Ending) (w' : World) : Prop := ∃ u, e = .returned (.tuple #[u, .int .i64 (errR R)]) ∧ (∀ ps l, R = .ok ps l → PairRow s w' u ps) ∧ Below s w w' ∧ (errR R ≠ 0 → u = .slice none 0 0)
set_option maxRecDepth 100000 in
set_option maxHeartbeats 4000000 in
theorem rpairs_any {w : World} {v : Value} {L : List Int} (h : RowOf .u8 w v L) (kind : Int) (at_ n : Nat) (hn : n ≤ 255) (hl : L.length ≤ 1000000) (ha : at_ ≤ 1000000) :
    Calls Tryd.prog 42 #[v, .int .i64 at_, .int .u8 kind, .int .i64 n] w (RPairK w.heap.size w (pairsM L kind n at_)) := by
  obtain ⟨i0, hi, hz0, hz1, hz2⟩ := info_parts info_pr
  obtain ⟨R, hR⟩ : ∃ R, R = pairsM L kind n at_ := ⟨_, rfl⟩
  rw [← hR]
  obtain ⟨s, hs⟩ : ∃ s, s = w.heap.size := ⟨_, rfl⟩
  have h0 := empty_pairs w
  have hb0 := below_alloc w (.cells #[] 58)
  obtain ⟨W0, hW0⟩ : ∃ W0, W0 = w.alloc (.cells #[] 58) := ⟨_, rfl⟩
  rw [← hW0, ← hs] at h0
  rw [← hW0, ← hs] at hb0
  have hq0 : RPQ s w L kind R at_ n 0 (.slice (some ⟨s, 0, none⟩) 0 0) W0 := ⟨⟨[], rfl, by rw [hR, Nat.sub_zero, Nat.mul_zero, Nat.add_zero]; cases pairsM L kind n at_ <;> rfl, h0⟩, hb0⟩
  have hr := h.lowK
  obtain ⟨a, c, rfl, _⟩ := h
  obtain ⟨ln, hln⟩ : ∃ ln, ln = L.length := ⟨_, rfl⟩
  rw [← hln] at hl hr ⊢
  have HR := Lib.hid hr
  have HLN := Lib.hid hln
  have HS := Lib.hid hs
  have HQ0 := Lib.hid hq0
  have HW0 := Lib.hid hW0.symm
  rw [← hs]
  clear hr hln hs hq0 h0 hb0 hW0 hR
  go_enter Tryd.func42, Tryd.ntmps42
  go_upto_region 3 with fail
  rw [HW0.out, ← HS.out]
  go_loopw [10, 11] (fun v i wr => ∃ k : Nat, k ≤ n ∧ i = .int .i64 k ∧ RPQ s w L kind R at_ n k v wr) (fun _ i _ => n - (intOf i).toNat)
  case atStart => exact ⟨0, by omega, rfl, HQ0.out⟩
  case round =>
    obtain ⟨k, hk, rfl, ⟨ps, hps, hRk, hrow⟩, hold⟩ := hrel
    obtain ⟨va, vc, rfl⟩ := hrow.slice
    obtain ⟨m, hm⟩ : ∃ m, m = ps.length := ⟨_, rfl⟩
    rw [← hm] at hps hrow ⊢
    subst hps
    have HM := Lib.hid hm
    have HROW := Lib.hid hrow
    have HOL := Lib.hid hold
    have HSZ : Hid (s ≤ wr.heap.size) := Lib.hid (by have := hold.size; rw [← HS.out] at this; exact this)
    have hold' : Below w.heap.size w wr := by rw [← HS.out]; exact hold
    have HRR := Lib.hid (HR.out.below hold').row
    clear hm hrow hold hold'
    by_cases hkn : m < n
    · have hkni : (m : Int) < (n : Int) := by omega
      rw [show n - m = n - (m + 1) + 1 by omega, pairsM_step] at hRk
      obtain ⟨i, hii⟩ : ∃ i, i = at_ + 2 * m := ⟨_, rfl⟩
      rw [← hii] at hRk
      have HRK := Lib.hid hRk
      have HII := Lib.hid hii
      have w1 : IntKind.i64.wrap (2 * (m : Int)) = 2 * (m : Int) := IntWalk.i64_in _ (by omega)
      have w2 : IntKind.i64.wrap ((at_ : Int) + 2 * (m : Int)) = (i : Int) := by rw [hii]; rw [IntWalk.i64_in _ (by omega)]; omega
      have w2' : (at_ : Int) + 2 * (m : Int) = (i : Int) := by rw [hii]; omega
      have w0 : IntKind.i64.wrap (i : Int) = (i : Int) := IntWalk.i64_in _ (by omega)
      have w3 : IntKind.i64.wrap ((i : Int) + 1) = (i : Int) + 1 := IntWalk.i64_in _ (by omega)
      have i0' : (0 : Int) ≤ (i : Int) := Int.natCast_nonneg _
      clear hRk hii
      by_cases hsh : ln ≤ i + 1
      · have hshi : (ln : Int) ≤ (i : Int) + 1 := by omega
        have HRE : Hid (R = .bad .short) := Lib.hid (by rw [HRK.out, pairM_short (by rw [← HLN.out]; exact hsh)]; rfl)
        clear hsh
        go_wp2_with fail
        refine bodyPost_ret (v := .tuple #[.slice none 0 0, .int .i64 20]) (by simp [results, Tryd.results42, go_sem]) rfl ?_
        exact ⟨_, by rw [HRE.out]; rfl, fun ps l e => by (rw [HRE.out] at e; cases e), HOL.out, fun _ => rfl⟩
      · have hshi : ¬ (ln : Int) ≤ (i : Int) + 1 := by omega
        have hlt1 : (i : Int) < (ln : Int) := by omega
        have hlt2 : (i : Int) + 1 < (ln : Int) := by omega
        have hnl1 : i < ln := by omega
        have hnl2 : i + 1 < ln := by omega
        have i1' : (0 : Int) ≤ (i : Int) + 1 := by omega
        obtain ⟨x, hx⟩ : ∃ x, L[i]? = some x := ⟨_, List.getElem?_eq_getElem (by rw [← HLN.out]; omega)⟩
        obtain ⟨y, hy⟩ : ∃ y, L[i + 1]? = some y := ⟨_, List.getElem?_eq_getElem (by rw [← HLN.out]; omega)⟩
        obtain ⟨_, _, e, hc⟩ := HRR.out
        injection e with e1 e2 e3
        clear e2
        subst e1 e3
        obtain ⟨gg, off, rfl, hcc⟩ := hc (by intro e; rw [e] at hx; simp at hx)
        have d1 := hcc i (by rw [← HLN.out]; omega)
        have d2 := hcc (i + 1) (by rw [← HLN.out]; omega)
        rw [hx] at d1
        rw [hy] at d2
        simp only [Option.getD_some] at d1 d2
        have HPM := Lib.hid (pairM_at (kind := kind) hx hy)
        have tn : ((i : Int) + 1).toNat = i + 1 := by omega
        clear hx hy hc hcc hsh
        go_upto_region 7 with fail
        have k1 : ∀ o, (wr.alloc o).drew.cell? ⟨gg, off + i, none⟩ = some (.int .u8 x) := fun o => (cell_block (Below.heap_alloc wr o _ (World.block_lt_of_cell? wr ⟨gg, off + i, none⟩ d1)) _).trans d1
        have k2 : ∀ o, (wr.alloc o).drew.cell? ⟨gg, off + (i + 1), none⟩ = some (.int .u8 y) := fun o => (cell_block (Below.heap_alloc wr o _ (World.block_lt_of_cell? wr ⟨gg, off + i, none⟩ d1)) _).trans d2
        have e1 : wr.drew.cell? ⟨gg, off + i, none⟩ = some (.int .u8 x) := d1
        have e2 : wr.drew.cell? ⟨gg, off + (i + 1), none⟩ = some (.int .u8 y) := d2
        have K := Lib.hid (And.intro k1 k2)
        clear k1 k2 d1 d2
        first
        | (go_region_held3 (fun Z => Z.cell? ⟨gg, off + i, none⟩ = some (.int .u8 x) ∧ Z.cell? ⟨gg, off + (i + 1), none⟩ = some (.int .u8 y)) (first | assumption | exact ⟨e1, e2⟩ | exact ⟨K.out.1 _, K.out.2 _⟩ | exact ⟨(K.out.1 (.cells #[.int .u8 x, .int .u8 y] 58)), (K.out.2 (.cells #[.int .u8 x, .int .u8 y] 58))⟩) (fail))
        | fail
        all_goals
          have hbx : Below wr.heap.size wr (wr.alloc (.cells #[.int .u8 x, .int .u8 y] 58)).drew := ((Below.refl _ wr).alloc (Nat.le_refl _) _).drew
          have hnb : (wr.alloc (.cells #[.int .u8 x, .int .u8 y] 58)).drew.heap[wr.heap.size]? = some (.cells #[.int .u8 x, .int .u8 y] 58 (0, 0)) := heap_alloc_new wr _
          obtain ⟨W2, hW2⟩ : ∃ W2, W2 = (wr.alloc (.cells #[.int .u8 x, .int .u8 y] 58)).drew := ⟨_, rfl⟩
          rw [← hW2] at hbx hnb
          obtain ⟨pb, hpb⟩ : ∃ pb, pb = wr.heap.size := ⟨_, rfl⟩
          have HPB := Lib.hid hpb.symm
          rw [← hpb] at hnb
          have HBX := Lib.hid hbx
          have HNB := Lib.hid hnb
          have HW2 := Lib.hid hW2.symm
          have c0 : W2.cell? ⟨pb, 0, none⟩ = some (.int .u8 x) := by simp [World.cell?, hnb]
          have c1 : W2.cell? ⟨pb, 1, none⟩ = some (.int .u8 y) := by simp [World.cell?, hnb]
          clear hbx hnb hW2 hpb e1 e2
          go_upto_region 8 with fail
          rw [HW2.out, HPB.out]
          go_wp2_with fail
          have hck := Attr.rcheck_any kind x y W2
          by_cases hp : Attr.chk kind x y = true
          · rw [hp] at hck
            have HPM2 : Hid (pairM L kind i = .ok (x, y) (i + 2)) := Lib.hid (by rw [HPM.out, if_pos hp])
            refine hck.mono ?_
            rintro e W3 ⟨rfl, b3⟩
            have N3 := (b3.block pb (lt_of_block HNB.out)).trans HNB.out
            have HN3 := Lib.hid N3
            have HR3 := Lib.hid (((HROW.out.keep fun g _ hl => HBX.out.block g hl).keep fun g _ hl => b3.block g hl))
            have HO3 := Lib.hid (HOL.out.trans ((HBX.out.trans (b3.mono HBX.out.size)).mono HSZ.out))
            have HZ3 : Hid (s ≤ W3.heap.size) := Lib.hid (Nat.le_trans HSZ.out (Nat.le_trans HBX.out.size b3.size))
            have hraw : W3.ownsRow s 58 2 (.slice va m vc) m (flatP ps) := by
              have := HR3.out
              unfold PairRow at this
              rw [← HM.out] at this
              exact this
            have HRAW := Lib.hid hraw
            have c0' : W3.cell? ⟨pb, 0, none⟩ = some (.int .u8 x) := by simp [World.cell?, N3]
            have c1' : W3.cell? ⟨pb, 1, none⟩ = some (.int .u8 y) := by simp [World.cell?, N3]
            clear hck b3 N3 hraw c0 c1 hp
            go_wp2_with (at_builtin; refine wpList_append_own _ rfl _ _ 33 rfl s 58 i0 (.agg #[.int .u8 0, .int .u8 0]) 2 2 Tryd.underlying33 hi hz0 hz1 hz2 rfl (by decide) _ _ _ rfl (HRAW.out.alloc _) ⟨W3.heap.size, 0, none⟩ 1 1 [.int .u8 x, .int .u8 y] rfl rfl (pair_cl W3 x y) (by simp [Value.oneCell']) (by unfold maxLen; omega) (by omega) (by rw [World.size_alloc]; have := HZ3.out; omega) ?_; intro v' W5 hown' hgrow _; have HOWN := Lib.hid hown'; have HGR := Lib.hid hgrow; clear hown' hgrow)
            have hb5 : Below s w W5 := (HO3.out.alloc HZ3.out _).grown HGR.out (by rw [World.size_alloc]; have := HZ3.out; omega) (fun r e => row_first HRAW.out r e)
            have hrow5 : PairRow s W5 v' (ps ++ [(x, y)]) := by
              unfold PairRow
              rw [flatP_append, List.length_append, ← HM.out]
              exact HOWN.out
            have HFIN : Hid (RPQ s w L kind R at_ n (m + 1) v' W5) := Lib.hid ⟨⟨ps ++ [(x, y)], by rw [List.length_append, ← HM.out]; rfl, by rw [HRK.out, HPM2.out, show at_ + 2 * (m + 1) = i + 2 by rw [HII.out]; omega]; rfl, hrow5⟩, hb5⟩
            clear hb5 hrow5 c0' c1'
            go_roundw
            case rel => exact ⟨m + 1, by omega, by go_num, HFIN.out⟩
            case measure => simp [intOf]; omega
          · have hpf : Attr.chk kind x y = false := by simpa using hp
            rw [hpf] at hck
            have HRE : Hid (R = .bad .unfit) := Lib.hid (by rw [HRK.out, HPM.out, if_neg hp]; rfl)
            refine hck.mono ?_
            rintro e W3 ⟨rfl, b3⟩
            have HO3 := Lib.hid (HOL.out.trans ((HBX.out.trans (b3.mono HBX.out.size)).mono HSZ.out))
            clear hck b3 c0 c1 hp hpf
            go_wp2_with fail
            refine bodyPost_ret (v := .tuple #[.slice none 0 0, .int .i64 33]) (by simp [results, Tryd.results42, go_sem]) rfl ?_
            exact ⟨_, by rw [HRE.out]; rfl, fun ps l e => by (rw [HRE.out] at e; cases e), HO3.out, fun _ => rfl⟩
    · obtain rfl : n = m := by omega
      rw [Nat.sub_self] at hRk
      have HRE : Hid (R = .ok ps (at_ + 2 * n)) := Lib.hid (by rw [hRk]; simp [pairsM, Rd.pre])
      clear hRk hkn
      go_wp2_with fail
      refine bodyPost_ret (v := .tuple #[.slice va n vc, .int .i64 0]) (by simp [results, Tryd.results42, go_sem]) rfl ?_
      refine ⟨_, by rw [HRE.out]; rfl, fun qs l e => ?_, HOL.out, fun h => absurd (by rw [HRE.out]; rfl) h⟩
      rw [HRE.out] at e
      injection e with e _
      subst e
      exact HROW.out
end Go.Proofs.YtjeknociobbhpaaDoor.Ord
namespace Go.Proofs.YtjeknociobbhpaaDoor.Ord
open Go.RowKit Base
set_option linter.unusedVariables false
set_option linter.unusedSimpArgs false

theorem decP_dec (a b : Int) : Dig.decP a b = dec a b := by
  unfold Dig.decP dec
  split <;> omega
theorem nx_some {L : List Int} {i : Nat} {x : Int} (h : L[i]? = some x) : nx L i = .ok x (i + 1) := by
  unfold nx; rw [h]
theorem place_short {L : List Int} {i : Nat} {β : Type} {f : Int → Nat → Rd β} (h : L.length ≤ i + 1 + 1) : (placeM L (i + 1)).andThen f = .bad .short := by
  unfold placeM
  rcases Nat.lt_or_ge (i + 1) L.length with hi | hi
  · rw [nx_lt hi]
    show ((nx L (i + 1 + 1)).andThen _).andThen _ = _
    rw [nx_end h]; rfl
  · rw [nx_end hi]; rfl
theorem place_ok {L : List Int} {i : Nat} {x y : Int} {β : Type} {f : Int → Nat → Rd β} (hx : L[i + 1]? = some x) (hy : L[i + 2]? = some y) : (placeM L (i + 1)).andThen f = f (dec x y) (i + 3) := by
  unfold placeM
  rw [nx_some hx]
  show ((nx L (i + 1 + 1)).andThen _).andThen _ = _
  rw [nx_some (show L[i + 1 + 1]? = some y from hy)]
  rfl
theorem nx1_short {L : List Int} {i : Nat} {β : Type} {f : Int → Nat → Rd β} (h : L.length ≤ i + 1) : (nx L (i + 1)).andThen f = .bad .short := by
  rw [nx_end h]; rfl
theorem ge_bad {L : List Int} {i : Nat} {x : Int} (h : L[i + 1]? = some x) (hx : x < 64) : ordK L 8 (i + 1) = .bad .none := by
  show (nx L (i + 1)).andThen (fun c l => (shownM c true l).andThen fun p m => Rd.ok (⟨8, 0, p.1, false, [], []⟩ : Or) m) = _
  rw [nx_some h]
  show (shownM x true (i + 1 + 1)).andThen _ = _
  unfold shownM standsB
  rw [if_neg (by simp; omega)]
  rfl
theorem ge_ok {L : List Int} {i : Nat} {x : Int} (h : L[i + 1]? = some x) (hx : ¬ x < 64) : ordK L 8 (i + 1) = .ok ⟨8, 0, x, false, [], []⟩ (i + 2) := by
  show (nx L (i + 1)).andThen (fun c l => (shownM c true l).andThen fun p m => Rd.ok (⟨8, 0, p.1, false, [], []⟩ : Or) m) = _
  rw [nx_some h]
  show (shownM x true (i + 1 + 1)).andThen _ = _
  unfold shownM standsB
  rw [if_pos (by simp; omega)]
  rfl
theorem ra_short {L : List Int} {i : Nat} {β : Type} {f : Int → Int × Bool → Nat → Rd β} (h : L.length ≤ i + 3) : ((placeM L (i + 1)).andThen fun x l => (signM L l).andThen fun p m => f x p m) = .bad .short := by
  rcases Nat.lt_or_ge (i + 2) L.length with hi | hi
  · rw [place_ok (List.getElem?_eq_getElem (show i + 1 < L.length by omega)) (List.getElem?_eq_getElem hi)]
    unfold signM
    rw [nx_end h]
    rfl
  · exact place_short hi
theorem sign8 {L : List Int} {j : Nat} (hz : L[j]? = some 8) : signM L j = (nx L (j + 1)).andThen fun c k => shownM c true k := by
  unfold signM
  rw [nx_some hz]
  rfl
theorem sign_else {L : List Int} {j : Nat} {z : Int} (hz : L[j]? = some z) (h8 : ¬ z = 8) : signM L j = shownM z false (j + 1) := by
  unfold signM
  rw [nx_some hz]
  exact if_neg h8
theorem sign_short {L : List Int} {i : Nat} {β : Type} {f : Int × Bool → Nat → Rd β} (hz : L[i + 3]? = some 8) (h : L.length ≤ i + 4) : (signM L (i + 3)).andThen f = .bad .short := by
  rw [sign8 hz, nx_end h]
  rfl
theorem sign_none {L : List Int} {i : Nat} {u : Int} {β : Type} {f : Int × Bool → Nat → Rd β} (hz : L[i + 3]? = some 8) (hu : L[i + 4]? = some u) (h : u < 64) : (signM L (i + 3)).andThen f = .bad .none := by
  rw [sign8 hz, nx_some (show L[i + 3 + 1]? = some u from hu)]
  show (shownM u true _).andThen f = _
  unfold shownM standsB
  rw [if_neg (by simp; omega)]
  rfl
theorem sign_ge {L : List Int} {i : Nat} {u : Int} {β : Type} {f : Int × Bool → Nat → Rd β} (hz : L[i + 3]? = some 8) (hu : L[i + 4]? = some u) (h : ¬ u < 64) : (signM L (i + 3)).andThen f = f (u, true) (i + 5) := by
  rw [sign8 hz, nx_some (show L[i + 3 + 1]? = some u from hu)]
  show (shownM u true _).andThen f = _
  unfold shownM standsB
  rw [if_pos (by simp; omega)]
  rfl
theorem sign_ok {L : List Int} {i : Nat} {z : Int} {β : Type} {f : Int × Bool → Nat → Rd β} (hz : L[i + 3]? = some z) (h8 : ¬ z = 8) (h : plain z = true) : (signM L (i + 3)).andThen f = f (z, false) (i + 4) := by
  rw [sign_else hz h8]
  unfold shownM standsB
  rw [if_pos (by simpa using h)]
  rfl
theorem sign_bad {L : List Int} {i : Nat} {z : Int} {β : Type} {f : Int × Bool → Nat → Rd β} (hz : L[i + 3]? = some z) (h8 : ¬ z = 8) (h : plain z = false) : (signM L (i + 3)).andThen f = .bad .none := by
  rw [sign_else hz h8]
  unfold shownM standsB
  rw [if_neg (by simp [h])]
  rfl
theorem sf_ok {L : List Int} {i : Nat} {x : Int} (h : L[i + 1]? = some x) : ordK L 29 (i + 1) = .ok ⟨29, 0, x % 64, false, [], []⟩ (i + 2) := by
  show (nx L (i + 1)).andThen (fun c l => Rd.ok (⟨29, 0, c % 64, false, [], []⟩ : Or) l) = _
  rw [nx_some h]
  rfl
theorem pairM_next {L : List Int} {kind : Int} {i l : Nat} {x : Int × Int} (h : pairM L kind i = .ok x l) : l = i + 2 := by
  obtain ⟨a, j, h1, h2⟩ := andThen_ok h
  obtain ⟨b, k, h3, h4⟩ := andThen_ok h2
  have e1 := (nx_ok h1).2.1
  have e2 := (nx_ok h3).2.1
  split at h4
  · injection h4 with _ e3; omega
  · cases h4
theorem pairsM_next {L : List Int} {kind : Int} : ∀ (n : Nat) {i l : Nat} {x : List (Int × Int)}, pairsM L kind n i = .ok x l → l = i + 2 * n
  | 0, i, l, x, h => by injection h with _ e; omega
  | n + 1, i, l, x, h => by
    obtain ⟨a, j, h1, h2⟩ := andThen_ok h
    obtain ⟨b, k, h3, h4⟩ := andThen_ok h2
    have e1 := pairM_next h1
    have e2 := pairsM_next n h3
    injection h4 with _ e3
    omega
theorem sa_ok {L : List Int} {i l : Nat} {ps : List (Int × Int)} (h : pairsM L 40 1 (i + 1) = .ok ps l) : ordK L 40 (i + 1) = .ok ⟨40, 0, 0, false, ps, []⟩ l := by
  show (pairsM L 40 1 (i + 1)).andThen _ = _
  rw [h]
  rfl
theorem sa_bad {L : List Int} {i : Nat} {f : Flt} (h : pairsM L 40 1 (i + 1) = .bad f) : ordK L 40 (i + 1) = .bad f := by
  show (pairsM L 40 1 (i + 1)).andThen _ = _
  rw [h]
  rfl
theorem sfe_ok {L : List Int} {k x : Int} {i l : Nat} {ps : List (Int × Int)} (hk : k = 41 ∨ k = 44) (hx : L[i + 1]? = some x) (h : pairsM L k x.toNat (i + 2) = .ok ps l) : ordK L k (i + 1) = .ok ⟨k, 0, 0, false, ps, []⟩ l := by
  rcases hk with rfl | rfl
  · show (nx L (i + 1)).andThen _ = _
    rw [nx_some hx]
    show (pairsM L 41 x.toNat (i + 2)).andThen _ = _
    rw [h]
    rfl
  · show (nx L (i + 1)).andThen _ = _
    rw [nx_some hx]
    show (pairsM L 44 x.toNat (i + 2)).andThen _ = _
    rw [h]
    rfl
theorem sfe_bad {L : List Int} {k x : Int} {i : Nat} {f : Flt} (hk : k = 41 ∨ k = 44) (hx : L[i + 1]? = some x) (h : pairsM L k x.toNat (i + 2) = .bad f) : ordK L k (i + 1) = .bad f := by
  rcases hk with rfl | rfl
  · show (nx L (i + 1)).andThen _ = _
    rw [nx_some hx]
    show (pairsM L 41 x.toNat (i + 2)).andThen _ = _
    rw [h]
    rfl
  · show (nx L (i + 1)).andThen _ = _
    rw [nx_some hx]
    show (pairsM L 44 x.toNat (i + 2)).andThen _ = _
    rw [h]
    rfl
theorem sfe_short {L : List Int} {k : Int} {i : Nat} (hk : k = 41 ∨ k = 44) (h : L.length ≤ i + 1) : ordK L k (i + 1) = .bad .short := by
  rcases hk with rfl | rfl
  · exact nx1_short h
  · exact nx1_short h
end Go.Proofs.YtjeknociobbhpaaDoor.Ord
