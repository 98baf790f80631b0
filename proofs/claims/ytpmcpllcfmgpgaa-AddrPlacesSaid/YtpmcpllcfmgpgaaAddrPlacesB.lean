/-
  The walk of AddrPlaces, some of its ways: it returns true, and leaves all that was in memory as it was.
-/
import Derived.Test.YtpmcpllcfmgpgaaAddrPlacesA
namespace Go.Proofs.Ytpmcpllcfmgpgaa
open Go.RowKit
set_option linter.unusedVariables false

set_option maxRecDepth 100000 in
set_option maxHeartbeats 4000000 in
theorem places_a0b0 (r c x y p b n q m M : Int) (hn : Hid (cells r c = n)) (hq : bits .and .i64 q 4095 = m) (m1 : 0 ≤ m) (m2 : m ≤ 4095) (hM : 1 + m = M) (M1 : 1 ≤ M) (M2 : M ≤ 4096) (n0 : 0 ≤ n) (n1 : n ≤ 4096) (w : World)
    (i0 : n ≠ 0) (i1 : 0 ≤ x) (i2 : x < r) (i3 : 0 ≤ y) (i4 : y < c) (s0 : 0 ≤ p) (s1 : p < n) :
    Calls Try.prog 10 #[.agg #[.int .i64 r, .int .i64 c], .int .i64 x, .int .i64 y, .int .i64 p, .int .i64 b, .int .i64 q] w fun e w' => e = .returned (.bool true) ∧ Below w.heap.size w w' := by
  have M0 : 0 ≤ M := by omega
  obtain ⟨_hrd, d0, d1, e0, e1⟩ := cells_pos r c n hn.out (by omega)
  clear _hrd
  obtain ⟨x2, y2, hx, hy, _, x0, x1, y0, y1, hxy⟩ := split_bd r c p n hn.out s0 s1
  have HX := Lib.hid hx
  have HY := Lib.hid hy
  have p2 : 0 ≤ x2 * c := Int.mul_nonneg x0 (by omega)
  have p3 : x2 * c ≤ 43 * c := Int.mul_le_mul_of_nonneg_right (by omega) (by omega)
  have hxy2 : (x2 * c + y2 != p) = false := by simp [hxy]
  clear hx hy hxy
  have i5 : 0 < n := by omega
  obtain ⟨_hrc, r0, r1, k0, k1⟩ := cells_pos r c n hn.out i0
  clear _hrc
  have p0 : 0 ≤ x * c := Int.mul_nonneg i1 (by omega)
  have p1 : x * c ≤ 43 * c := Int.mul_le_mul_of_nonneg_right (by omega) (by omega)
  go_enter Try.func10, Try.ntmps10
  go_wp2_with fail
  refine (alive2_any _).mono ?_
  rintro e w1 ⟨rfl, hb1⟩
  have B1 := below_box hb1
  obtain ⟨c0, c1⟩ := box_at hb1
  clear hb1
  go_wp2_with fail
  refine (rcells_is r c n _ hn.out).mono ?_
  rintro e w2 ⟨rfl, hb2⟩
  have c0' := cell_later hb2 c0
  clear c0
  have c0 := c0'
  clear c0'
  have c1' := cell_later hb2 c1
  clear c1
  have c1 := c1'
  clear c1'
  have B2 := B1.trans (hb2.mono B1.size)
  clear hb2 B1
  go_wp2_with fail
  refine (at_yes r c x y n _ hn i0 i1 i2 i3 i4).mono ?_
  rintro e w3 ⟨rfl, hb3⟩
  have c0' := cell_later hb3 c0
  clear c0
  have c0 := c0'
  clear c0'
  have c1' := cell_later hb3 c1
  clear c1
  have c1 := c1'
  clear c1'
  have B3 := B2.trans (hb3.mono B2.size)
  clear hb3 B2
  go_wp2_with fail
  refine (cells_is r c n _ hn.out).mono ?_
  rintro e w4 ⟨rfl, hb4⟩
  have c0' := cell_later hb4 c0
  clear c0
  have c0 := c0'
  clear c0'
  have c1' := cell_later hb4 c1
  clear c1
  have c1 := c1'
  clear c1'
  have B4 := B3.trans (hb4.mono B3.size)
  clear hb4 B3
  go_wp2_with fail
  refine (split_is r c p n x2 y2 _ hn s0 s1 HX.out HY.out).mono ?_
  rintro e w5 ⟨rfl, hb5⟩
  have c0' := cell_later hb5 c0
  clear c0
  have c0 := c0'
  clear c0'
  have c1' := cell_later hb5 c1
  clear c1
  have c1 := c1'
  clear c1'
  have B5 := B4.trans (hb5.mono B4.size)
  clear hb5 B4
  go_wp2_with fail
  refine (rbetween_any r c p b n _ hn n0 n1).mono ?_
  rintro e w6 ⟨g, cap, rfl, hr6, hb6⟩
  have h6 := RowOf.of_owns hr6
  have hcap := owns_cap hr6
  clear hr6
  have c0' := cell_later hb6 c0
  clear c0
  have c0 := c0'
  clear c0'
  have c1' := cell_later hb6 c1
  clear c1
  have c1 := c1'
  clear c1'
  have B6 := B5.trans (hb6.mono B5.size)
  clear hb6 B5
  go_wp2_with fail
  refine (list_is r c p b n M (by omega) (by omega) _ hn).mono ?_
  rintro e w7 ⟨v, rfl, hr7, hb7⟩
  have h7 := RowOf.of_owns hr7
  clear hr7
  have h6 := h6.below hb7
  have c0' := cell_later hb7 c0
  clear c0
  have c0 := c0'
  clear c0'
  have c1' := cell_later hb7 c1
  clear c1
  have c1 := c1'
  clear c1'
  have B7 := B6.trans (hb7.mono B6.size)
  clear hb7 B6
  go_wp2_with fail
  have hlen : ((betw n p b).take M.toNat).length ≤ maxLen := by rw [List.length_take]; unfold maxLen; omega
  obtain ⟨len, hlen2⟩ : ∃ len, len = (betw n p b).length := ⟨_, rfl⟩
  rw [← hlen2] at hcap
  by_cases hmin : M ≤ ((betw n p b).length : Int)
  · have h6' := h6.head M.toNat (by omega)
    have hps : PS w.heap.size r c v (.slice (some ⟨g, 0, none⟩) M.toNat cap) ((betw n p b).take M.toNat) ((betw n p b).take M.toNat) w w7 := ⟨h7, h6', B7⟩
    have b1 : (M : Int) ≤ (cap : Int) := by omega
    have b3 : (((betw n p b).length : Int) < M) = False := by simp only [eq_iff_iff, iff_false]; omega
    clear hlen2 hcap h6 h6' h7 B7
    go_region_held3 (fun w' => w'.cell? ⟨w.heap.size, 0, none⟩ = some (.int .i64 r) ∧ w'.cell? ⟨w.heap.size, 1, none⟩ = some (.int .i64 c) ∧ PS w.heap.size r c v (.slice (some ⟨g, 0, none⟩) (M.toNat) cap) ((betw n p b).take M.toNat) ((betw n p b).take M.toNat) w w')
      (first | exact ⟨c0, c1, hps.drew⟩ | assumption | go_keep)
      (first | (go_at_call 48; refine (rmove_ps _ r c _ _ n _ _ _ _ _ _ hn n0 n1 (by assumption)).mono ?_; rintro e w' ⟨rfl, hS⟩) | (go_at_call 47; refine (move_ps _ r c _ _ n _ _ _ _ _ _ hn n0 n1 (by assumption)).mono ?_; rintro e w' ⟨rfl, hS⟩) | (go_at_call 49; refine (same_ps _ r c _ _ _ _ _ hlen (by assumption)).mono ?_; rintro e w' ⟨rfl, hS⟩))
    go_wp2_with fail
    go_ret
    exact ⟨rfl, hS.2.2.2.2⟩
  · have h6' := h6.head (betw n p b).length (Nat.le_refl _)
    rw [List.take_of_length_le (Nat.le_refl _)] at h6'
    have hL : (betw n p b).take M.toNat = betw n p b := List.take_of_length_le (by omega)
    rw [hL] at h7 hlen
    have hps : PS w.heap.size r c v (.slice (some ⟨g, 0, none⟩) (betw n p b).length cap) (betw n p b) (betw n p b) w w7 := ⟨h7, h6', B7⟩
    have b1 : ((betw n p b).length : Int) ≤ (cap : Int) := by omega
    clear hlen2 hcap h6 h6' h7 B7 hL
    go_region_held3 (fun w' => w'.cell? ⟨w.heap.size, 0, none⟩ = some (.int .i64 r) ∧ w'.cell? ⟨w.heap.size, 1, none⟩ = some (.int .i64 c) ∧ PS w.heap.size r c v (.slice (some ⟨g, 0, none⟩) ((betw n p b).length) cap) (betw n p b) (betw n p b) w w')
      (first | exact ⟨c0, c1, hps.drew⟩ | assumption | go_keep)
      (first | (go_at_call 48; refine (rmove_ps _ r c _ _ n _ _ _ _ _ _ hn n0 n1 (by assumption)).mono ?_; rintro e w' ⟨rfl, hS⟩) | (go_at_call 47; refine (move_ps _ r c _ _ n _ _ _ _ _ _ hn n0 n1 (by assumption)).mono ?_; rintro e w' ⟨rfl, hS⟩) | (go_at_call 49; refine (same_ps _ r c _ _ _ _ _ hlen (by assumption)).mono ?_; rintro e w' ⟨rfl, hS⟩))
    go_wp2_with fail
    go_ret
    exact ⟨rfl, hS.2.2.2.2⟩

set_option maxRecDepth 100000 in
set_option maxHeartbeats 4000000 in
theorem places_a0b1 (r c x y p b n q m M : Int) (hn : Hid (cells r c = n)) (hq : bits .and .i64 q 4095 = m) (m1 : 0 ≤ m) (m2 : m ≤ 4095) (hM : 1 + m = M) (M1 : 1 ≤ M) (M2 : M ≤ 4096) (n0 : 0 ≤ n) (n1 : n ≤ 4096) (w : World)
    (i0 : n ≠ 0) (i1 : 0 ≤ x) (i2 : x < r) (i3 : 0 ≤ y) (i4 : y < c) (s0 : p < 0) :
    Calls Try.prog 10 #[.agg #[.int .i64 r, .int .i64 c], .int .i64 x, .int .i64 y, .int .i64 p, .int .i64 b, .int .i64 q] w fun e w' => e = .returned (.bool true) ∧ Below w.heap.size w w' := by
  have M0 : 0 ≤ M := by omega
  have i5 : 0 < n := by omega
  obtain ⟨_hrc, r0, r1, k0, k1⟩ := cells_pos r c n hn.out i0
  clear _hrc
  have p0 : 0 ≤ x * c := Int.mul_nonneg i1 (by omega)
  have p1 : x * c ≤ 43 * c := Int.mul_le_mul_of_nonneg_right (by omega) (by omega)
  go_enter Try.func10, Try.ntmps10
  go_wp2_with fail
  refine (alive2_any _).mono ?_
  rintro e w1 ⟨rfl, hb1⟩
  have B1 := below_box hb1
  obtain ⟨c0, c1⟩ := box_at hb1
  clear hb1
  go_wp2_with fail
  refine (rcells_is r c n _ hn.out).mono ?_
  rintro e w2 ⟨rfl, hb2⟩
  have c0' := cell_later hb2 c0
  clear c0
  have c0 := c0'
  clear c0'
  have c1' := cell_later hb2 c1
  clear c1
  have c1 := c1'
  clear c1'
  have B2 := B1.trans (hb2.mono B1.size)
  clear hb2 B1
  go_wp2_with fail
  refine (at_yes r c x y n _ hn i0 i1 i2 i3 i4).mono ?_
  rintro e w3 ⟨rfl, hb3⟩
  have c0' := cell_later hb3 c0
  clear c0
  have c0 := c0'
  clear c0'
  have c1' := cell_later hb3 c1
  clear c1
  have c1 := c1'
  clear c1'
  have B3 := B2.trans (hb3.mono B2.size)
  clear hb3 B2
  go_wp2_with fail
  refine (cells_is r c n _ hn.out).mono ?_
  rintro e w4 ⟨rfl, hb4⟩
  have c0' := cell_later hb4 c0
  clear c0
  have c0 := c0'
  clear c0'
  have c1' := cell_later hb4 c1
  clear c1
  have c1 := c1'
  clear c1'
  have B4 := B3.trans (hb4.mono B3.size)
  clear hb4 B3
  go_wp2_with fail
  refine (split_no r c p n _ hn (by omega)).mono ?_
  rintro e w5 ⟨rfl, hb5⟩
  have c0' := cell_later hb5 c0
  clear c0
  have c0 := c0'
  clear c0'
  have c1' := cell_later hb5 c1
  clear c1
  have c1 := c1'
  clear c1'
  have B5 := B4.trans (hb5.mono B4.size)
  clear hb5 B4
  go_wp2_with fail
  refine (rbetween_any r c p b n _ hn n0 n1).mono ?_
  rintro e w6 ⟨g, cap, rfl, hr6, hb6⟩
  have h6 := RowOf.of_owns hr6
  have hcap := owns_cap hr6
  clear hr6
  have c0' := cell_later hb6 c0
  clear c0
  have c0 := c0'
  clear c0'
  have c1' := cell_later hb6 c1
  clear c1
  have c1 := c1'
  clear c1'
  have B6 := B5.trans (hb6.mono B5.size)
  clear hb6 B5
  go_wp2_with fail
  refine (list_is r c p b n M (by omega) (by omega) _ hn).mono ?_
  rintro e w7 ⟨v, rfl, hr7, hb7⟩
  have h7 := RowOf.of_owns hr7
  clear hr7
  have h6 := h6.below hb7
  have c0' := cell_later hb7 c0
  clear c0
  have c0 := c0'
  clear c0'
  have c1' := cell_later hb7 c1
  clear c1
  have c1 := c1'
  clear c1'
  have B7 := B6.trans (hb7.mono B6.size)
  clear hb7 B6
  go_wp2_with fail
  have hlen : ((betw n p b).take M.toNat).length ≤ maxLen := by rw [List.length_take]; unfold maxLen; omega
  obtain ⟨len, hlen2⟩ : ∃ len, len = (betw n p b).length := ⟨_, rfl⟩
  rw [← hlen2] at hcap
  by_cases hmin : M ≤ ((betw n p b).length : Int)
  · have h6' := h6.head M.toNat (by omega)
    have hps : PS w.heap.size r c v (.slice (some ⟨g, 0, none⟩) M.toNat cap) ((betw n p b).take M.toNat) ((betw n p b).take M.toNat) w w7 := ⟨h7, h6', B7⟩
    have b1 : (M : Int) ≤ (cap : Int) := by omega
    have b3 : (((betw n p b).length : Int) < M) = False := by simp only [eq_iff_iff, iff_false]; omega
    clear hlen2 hcap h6 h6' h7 B7
    go_region_held3 (fun w' => w'.cell? ⟨w.heap.size, 0, none⟩ = some (.int .i64 r) ∧ w'.cell? ⟨w.heap.size, 1, none⟩ = some (.int .i64 c) ∧ PS w.heap.size r c v (.slice (some ⟨g, 0, none⟩) (M.toNat) cap) ((betw n p b).take M.toNat) ((betw n p b).take M.toNat) w w')
      (first | exact ⟨c0, c1, hps.drew⟩ | assumption | go_keep)
      (first | (go_at_call 48; refine (rmove_ps _ r c _ _ n _ _ _ _ _ _ hn n0 n1 (by assumption)).mono ?_; rintro e w' ⟨rfl, hS⟩) | (go_at_call 47; refine (move_ps _ r c _ _ n _ _ _ _ _ _ hn n0 n1 (by assumption)).mono ?_; rintro e w' ⟨rfl, hS⟩) | (go_at_call 49; refine (same_ps _ r c _ _ _ _ _ hlen (by assumption)).mono ?_; rintro e w' ⟨rfl, hS⟩))
    go_wp2_with fail
    go_ret
    exact ⟨rfl, hS.2.2.2.2⟩
  · have h6' := h6.head (betw n p b).length (Nat.le_refl _)
    rw [List.take_of_length_le (Nat.le_refl _)] at h6'
    have hL : (betw n p b).take M.toNat = betw n p b := List.take_of_length_le (by omega)
    rw [hL] at h7 hlen
    have hps : PS w.heap.size r c v (.slice (some ⟨g, 0, none⟩) (betw n p b).length cap) (betw n p b) (betw n p b) w w7 := ⟨h7, h6', B7⟩
    have b1 : ((betw n p b).length : Int) ≤ (cap : Int) := by omega
    clear hlen2 hcap h6 h6' h7 B7 hL
    go_region_held3 (fun w' => w'.cell? ⟨w.heap.size, 0, none⟩ = some (.int .i64 r) ∧ w'.cell? ⟨w.heap.size, 1, none⟩ = some (.int .i64 c) ∧ PS w.heap.size r c v (.slice (some ⟨g, 0, none⟩) ((betw n p b).length) cap) (betw n p b) (betw n p b) w w')
      (first | exact ⟨c0, c1, hps.drew⟩ | assumption | go_keep)
      (first | (go_at_call 48; refine (rmove_ps _ r c _ _ n _ _ _ _ _ _ hn n0 n1 (by assumption)).mono ?_; rintro e w' ⟨rfl, hS⟩) | (go_at_call 47; refine (move_ps _ r c _ _ n _ _ _ _ _ _ hn n0 n1 (by assumption)).mono ?_; rintro e w' ⟨rfl, hS⟩) | (go_at_call 49; refine (same_ps _ r c _ _ _ _ _ hlen (by assumption)).mono ?_; rintro e w' ⟨rfl, hS⟩))
    go_wp2_with fail
    go_ret
    exact ⟨rfl, hS.2.2.2.2⟩

set_option maxRecDepth 100000 in
set_option maxHeartbeats 4000000 in
theorem places_a0b2 (r c x y p b n q m M : Int) (hn : Hid (cells r c = n)) (hq : bits .and .i64 q 4095 = m) (m1 : 0 ≤ m) (m2 : m ≤ 4095) (hM : 1 + m = M) (M1 : 1 ≤ M) (M2 : M ≤ 4096) (n0 : 0 ≤ n) (n1 : n ≤ 4096) (w : World)
    (i0 : n ≠ 0) (i1 : 0 ≤ x) (i2 : x < r) (i3 : 0 ≤ y) (i4 : y < c) (s0 : 0 ≤ p) (s1 : n ≤ p) :
    Calls Try.prog 10 #[.agg #[.int .i64 r, .int .i64 c], .int .i64 x, .int .i64 y, .int .i64 p, .int .i64 b, .int .i64 q] w fun e w' => e = .returned (.bool true) ∧ Below w.heap.size w w' := by
  have M0 : 0 ≤ M := by omega
  have i5 : 0 < n := by omega
  obtain ⟨_hrc, r0, r1, k0, k1⟩ := cells_pos r c n hn.out i0
  clear _hrc
  have p0 : 0 ≤ x * c := Int.mul_nonneg i1 (by omega)
  have p1 : x * c ≤ 43 * c := Int.mul_le_mul_of_nonneg_right (by omega) (by omega)
  go_enter Try.func10, Try.ntmps10
  go_wp2_with fail
  refine (alive2_any _).mono ?_
  rintro e w1 ⟨rfl, hb1⟩
  have B1 := below_box hb1
  obtain ⟨c0, c1⟩ := box_at hb1
  clear hb1
  go_wp2_with fail
  refine (rcells_is r c n _ hn.out).mono ?_
  rintro e w2 ⟨rfl, hb2⟩
  have c0' := cell_later hb2 c0
  clear c0
  have c0 := c0'
  clear c0'
  have c1' := cell_later hb2 c1
  clear c1
  have c1 := c1'
  clear c1'
  have B2 := B1.trans (hb2.mono B1.size)
  clear hb2 B1
  go_wp2_with fail
  refine (at_yes r c x y n _ hn i0 i1 i2 i3 i4).mono ?_
  rintro e w3 ⟨rfl, hb3⟩
  have c0' := cell_later hb3 c0
  clear c0
  have c0 := c0'
  clear c0'
  have c1' := cell_later hb3 c1
  clear c1
  have c1 := c1'
  clear c1'
  have B3 := B2.trans (hb3.mono B2.size)
  clear hb3 B2
  go_wp2_with fail
  refine (cells_is r c n _ hn.out).mono ?_
  rintro e w4 ⟨rfl, hb4⟩
  have c0' := cell_later hb4 c0
  clear c0
  have c0 := c0'
  clear c0'
  have c1' := cell_later hb4 c1
  clear c1
  have c1 := c1'
  clear c1'
  have B4 := B3.trans (hb4.mono B3.size)
  clear hb4 B3
  go_wp2_with fail
  refine (split_no r c p n _ hn (by omega)).mono ?_
  rintro e w5 ⟨rfl, hb5⟩
  have c0' := cell_later hb5 c0
  clear c0
  have c0 := c0'
  clear c0'
  have c1' := cell_later hb5 c1
  clear c1
  have c1 := c1'
  clear c1'
  have B5 := B4.trans (hb5.mono B4.size)
  clear hb5 B4
  go_wp2_with fail
  refine (rbetween_any r c p b n _ hn n0 n1).mono ?_
  rintro e w6 ⟨g, cap, rfl, hr6, hb6⟩
  have h6 := RowOf.of_owns hr6
  have hcap := owns_cap hr6
  clear hr6
  have c0' := cell_later hb6 c0
  clear c0
  have c0 := c0'
  clear c0'
  have c1' := cell_later hb6 c1
  clear c1
  have c1 := c1'
  clear c1'
  have B6 := B5.trans (hb6.mono B5.size)
  clear hb6 B5
  go_wp2_with fail
  refine (list_is r c p b n M (by omega) (by omega) _ hn).mono ?_
  rintro e w7 ⟨v, rfl, hr7, hb7⟩
  have h7 := RowOf.of_owns hr7
  clear hr7
  have h6 := h6.below hb7
  have c0' := cell_later hb7 c0
  clear c0
  have c0 := c0'
  clear c0'
  have c1' := cell_later hb7 c1
  clear c1
  have c1 := c1'
  clear c1'
  have B7 := B6.trans (hb7.mono B6.size)
  clear hb7 B6
  go_wp2_with fail
  have hlen : ((betw n p b).take M.toNat).length ≤ maxLen := by rw [List.length_take]; unfold maxLen; omega
  obtain ⟨len, hlen2⟩ : ∃ len, len = (betw n p b).length := ⟨_, rfl⟩
  rw [← hlen2] at hcap
  by_cases hmin : M ≤ ((betw n p b).length : Int)
  · have h6' := h6.head M.toNat (by omega)
    have hps : PS w.heap.size r c v (.slice (some ⟨g, 0, none⟩) M.toNat cap) ((betw n p b).take M.toNat) ((betw n p b).take M.toNat) w w7 := ⟨h7, h6', B7⟩
    have b1 : (M : Int) ≤ (cap : Int) := by omega
    have b3 : (((betw n p b).length : Int) < M) = False := by simp only [eq_iff_iff, iff_false]; omega
    clear hlen2 hcap h6 h6' h7 B7
    go_region_held3 (fun w' => w'.cell? ⟨w.heap.size, 0, none⟩ = some (.int .i64 r) ∧ w'.cell? ⟨w.heap.size, 1, none⟩ = some (.int .i64 c) ∧ PS w.heap.size r c v (.slice (some ⟨g, 0, none⟩) (M.toNat) cap) ((betw n p b).take M.toNat) ((betw n p b).take M.toNat) w w')
      (first | exact ⟨c0, c1, hps.drew⟩ | assumption | go_keep)
      (first | (go_at_call 48; refine (rmove_ps _ r c _ _ n _ _ _ _ _ _ hn n0 n1 (by assumption)).mono ?_; rintro e w' ⟨rfl, hS⟩) | (go_at_call 47; refine (move_ps _ r c _ _ n _ _ _ _ _ _ hn n0 n1 (by assumption)).mono ?_; rintro e w' ⟨rfl, hS⟩) | (go_at_call 49; refine (same_ps _ r c _ _ _ _ _ hlen (by assumption)).mono ?_; rintro e w' ⟨rfl, hS⟩))
    go_wp2_with fail
    go_ret
    exact ⟨rfl, hS.2.2.2.2⟩
  · have h6' := h6.head (betw n p b).length (Nat.le_refl _)
    rw [List.take_of_length_le (Nat.le_refl _)] at h6'
    have hL : (betw n p b).take M.toNat = betw n p b := List.take_of_length_le (by omega)
    rw [hL] at h7 hlen
    have hps : PS w.heap.size r c v (.slice (some ⟨g, 0, none⟩) (betw n p b).length cap) (betw n p b) (betw n p b) w w7 := ⟨h7, h6', B7⟩
    have b1 : ((betw n p b).length : Int) ≤ (cap : Int) := by omega
    clear hlen2 hcap h6 h6' h7 B7 hL
    go_region_held3 (fun w' => w'.cell? ⟨w.heap.size, 0, none⟩ = some (.int .i64 r) ∧ w'.cell? ⟨w.heap.size, 1, none⟩ = some (.int .i64 c) ∧ PS w.heap.size r c v (.slice (some ⟨g, 0, none⟩) ((betw n p b).length) cap) (betw n p b) (betw n p b) w w')
      (first | exact ⟨c0, c1, hps.drew⟩ | assumption | go_keep)
      (first | (go_at_call 48; refine (rmove_ps _ r c _ _ n _ _ _ _ _ _ hn n0 n1 (by assumption)).mono ?_; rintro e w' ⟨rfl, hS⟩) | (go_at_call 47; refine (move_ps _ r c _ _ n _ _ _ _ _ _ hn n0 n1 (by assumption)).mono ?_; rintro e w' ⟨rfl, hS⟩) | (go_at_call 49; refine (same_ps _ r c _ _ _ _ _ hlen (by assumption)).mono ?_; rintro e w' ⟨rfl, hS⟩))
    go_wp2_with fail
    go_ret
    exact ⟨rfl, hS.2.2.2.2⟩

set_option maxRecDepth 100000 in
set_option maxHeartbeats 4000000 in
theorem places_a2b0 (r c x y p b n q m M : Int) (hn : Hid (cells r c = n)) (hq : bits .and .i64 q 4095 = m) (m1 : 0 ≤ m) (m2 : m ≤ 4095) (hM : 1 + m = M) (M1 : 1 ≤ M) (M2 : M ≤ 4096) (n0 : 0 ≤ n) (n1 : n ≤ 4096) (w : World)
    (i0 : n ≠ 0) (i1 : x < 0) (s0 : 0 ≤ p) (s1 : p < n) :
    Calls Try.prog 10 #[.agg #[.int .i64 r, .int .i64 c], .int .i64 x, .int .i64 y, .int .i64 p, .int .i64 b, .int .i64 q] w fun e w' => e = .returned (.bool true) ∧ Below w.heap.size w w' := by
  have M0 : 0 ≤ M := by omega
  obtain ⟨_hrd, d0, d1, e0, e1⟩ := cells_pos r c n hn.out (by omega)
  clear _hrd
  obtain ⟨x2, y2, hx, hy, _, x0, x1, y0, y1, hxy⟩ := split_bd r c p n hn.out s0 s1
  have HX := Lib.hid hx
  have HY := Lib.hid hy
  have p2 : 0 ≤ x2 * c := Int.mul_nonneg x0 (by omega)
  have p3 : x2 * c ≤ 43 * c := Int.mul_le_mul_of_nonneg_right (by omega) (by omega)
  have hxy2 : (x2 * c + y2 != p) = false := by simp [hxy]
  clear hx hy hxy
  have i5 : 0 < n := by omega
  go_enter Try.func10, Try.ntmps10
  go_wp2_with fail
  refine (alive2_any _).mono ?_
  rintro e w1 ⟨rfl, hb1⟩
  have B1 := below_box hb1
  obtain ⟨c0, c1⟩ := box_at hb1
  clear hb1
  go_wp2_with fail
  refine (rcells_is r c n _ hn.out).mono ?_
  rintro e w2 ⟨rfl, hb2⟩
  have c0' := cell_later hb2 c0
  clear c0
  have c0 := c0'
  clear c0'
  have c1' := cell_later hb2 c1
  clear c1
  have c1 := c1'
  clear c1'
  have B2 := B1.trans (hb2.mono B1.size)
  clear hb2 B1
  go_wp2_with fail
  refine (at_no_row r c x y n _ hn i0 (by omega)).mono ?_
  rintro e w3 ⟨rfl, hb3⟩
  have c0' := cell_later hb3 c0
  clear c0
  have c0 := c0'
  clear c0'
  have c1' := cell_later hb3 c1
  clear c1
  have c1 := c1'
  clear c1'
  have B3 := B2.trans (hb3.mono B2.size)
  clear hb3 B2
  go_wp2_with fail
  refine (cells_is r c n _ hn.out).mono ?_
  rintro e w4 ⟨rfl, hb4⟩
  have c0' := cell_later hb4 c0
  clear c0
  have c0 := c0'
  clear c0'
  have c1' := cell_later hb4 c1
  clear c1
  have c1 := c1'
  clear c1'
  have B4 := B3.trans (hb4.mono B3.size)
  clear hb4 B3
  go_wp2_with fail
  refine (split_is r c p n x2 y2 _ hn s0 s1 HX.out HY.out).mono ?_
  rintro e w5 ⟨rfl, hb5⟩
  have c0' := cell_later hb5 c0
  clear c0
  have c0 := c0'
  clear c0'
  have c1' := cell_later hb5 c1
  clear c1
  have c1 := c1'
  clear c1'
  have B5 := B4.trans (hb5.mono B4.size)
  clear hb5 B4
  go_wp2_with fail
  refine (rbetween_any r c p b n _ hn n0 n1).mono ?_
  rintro e w6 ⟨g, cap, rfl, hr6, hb6⟩
  have h6 := RowOf.of_owns hr6
  have hcap := owns_cap hr6
  clear hr6
  have c0' := cell_later hb6 c0
  clear c0
  have c0 := c0'
  clear c0'
  have c1' := cell_later hb6 c1
  clear c1
  have c1 := c1'
  clear c1'
  have B6 := B5.trans (hb6.mono B5.size)
  clear hb6 B5
  go_wp2_with fail
  refine (list_is r c p b n M (by omega) (by omega) _ hn).mono ?_
  rintro e w7 ⟨v, rfl, hr7, hb7⟩
  have h7 := RowOf.of_owns hr7
  clear hr7
  have h6 := h6.below hb7
  have c0' := cell_later hb7 c0
  clear c0
  have c0 := c0'
  clear c0'
  have c1' := cell_later hb7 c1
  clear c1
  have c1 := c1'
  clear c1'
  have B7 := B6.trans (hb7.mono B6.size)
  clear hb7 B6
  go_wp2_with fail
  have hlen : ((betw n p b).take M.toNat).length ≤ maxLen := by rw [List.length_take]; unfold maxLen; omega
  obtain ⟨len, hlen2⟩ : ∃ len, len = (betw n p b).length := ⟨_, rfl⟩
  rw [← hlen2] at hcap
  by_cases hmin : M ≤ ((betw n p b).length : Int)
  · have h6' := h6.head M.toNat (by omega)
    have hps : PS w.heap.size r c v (.slice (some ⟨g, 0, none⟩) M.toNat cap) ((betw n p b).take M.toNat) ((betw n p b).take M.toNat) w w7 := ⟨h7, h6', B7⟩
    have b1 : (M : Int) ≤ (cap : Int) := by omega
    have b3 : (((betw n p b).length : Int) < M) = False := by simp only [eq_iff_iff, iff_false]; omega
    clear hlen2 hcap h6 h6' h7 B7
    go_region_held3 (fun w' => w'.cell? ⟨w.heap.size, 0, none⟩ = some (.int .i64 r) ∧ w'.cell? ⟨w.heap.size, 1, none⟩ = some (.int .i64 c) ∧ PS w.heap.size r c v (.slice (some ⟨g, 0, none⟩) (M.toNat) cap) ((betw n p b).take M.toNat) ((betw n p b).take M.toNat) w w')
      (first | exact ⟨c0, c1, hps.drew⟩ | assumption | go_keep)
      (first | (go_at_call 48; refine (rmove_ps _ r c _ _ n _ _ _ _ _ _ hn n0 n1 (by assumption)).mono ?_; rintro e w' ⟨rfl, hS⟩) | (go_at_call 47; refine (move_ps _ r c _ _ n _ _ _ _ _ _ hn n0 n1 (by assumption)).mono ?_; rintro e w' ⟨rfl, hS⟩) | (go_at_call 49; refine (same_ps _ r c _ _ _ _ _ hlen (by assumption)).mono ?_; rintro e w' ⟨rfl, hS⟩))
    go_wp2_with fail
    go_ret
    exact ⟨rfl, hS.2.2.2.2⟩
  · have h6' := h6.head (betw n p b).length (Nat.le_refl _)
    rw [List.take_of_length_le (Nat.le_refl _)] at h6'
    have hL : (betw n p b).take M.toNat = betw n p b := List.take_of_length_le (by omega)
    rw [hL] at h7 hlen
    have hps : PS w.heap.size r c v (.slice (some ⟨g, 0, none⟩) (betw n p b).length cap) (betw n p b) (betw n p b) w w7 := ⟨h7, h6', B7⟩
    have b1 : ((betw n p b).length : Int) ≤ (cap : Int) := by omega
    clear hlen2 hcap h6 h6' h7 B7 hL
    go_region_held3 (fun w' => w'.cell? ⟨w.heap.size, 0, none⟩ = some (.int .i64 r) ∧ w'.cell? ⟨w.heap.size, 1, none⟩ = some (.int .i64 c) ∧ PS w.heap.size r c v (.slice (some ⟨g, 0, none⟩) ((betw n p b).length) cap) (betw n p b) (betw n p b) w w')
      (first | exact ⟨c0, c1, hps.drew⟩ | assumption | go_keep)
      (first | (go_at_call 48; refine (rmove_ps _ r c _ _ n _ _ _ _ _ _ hn n0 n1 (by assumption)).mono ?_; rintro e w' ⟨rfl, hS⟩) | (go_at_call 47; refine (move_ps _ r c _ _ n _ _ _ _ _ _ hn n0 n1 (by assumption)).mono ?_; rintro e w' ⟨rfl, hS⟩) | (go_at_call 49; refine (same_ps _ r c _ _ _ _ _ hlen (by assumption)).mono ?_; rintro e w' ⟨rfl, hS⟩))
    go_wp2_with fail
    go_ret
    exact ⟨rfl, hS.2.2.2.2⟩

end Go.Proofs.Ytpmcpllcfmgpgaa
