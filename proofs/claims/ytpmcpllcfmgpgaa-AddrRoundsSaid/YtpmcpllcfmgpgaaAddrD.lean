/-
  Contracts of Move, At and Split of package addr, and of the reference's Move: each call returns the numbers that the plain definitions say, and leaves all that was in memory as it was.
-/
import Derived.Test.YtpmcpllcfmgpgaaAddrC
namespace Go.Proofs.Ytpmcpllcfmgpgaa
open Go.RowKit
theorem cells_bd (r c : Int) : 0 ≤ cells r c ∧ cells r c ≤ 4096 := by
  unfold cells
  by_cases h : r < 1 ∨ 43 < r ∨ c < 1 ∨ 132 < c
  · rw [if_pos h]; omega
  · rw [if_neg h]
    by_cases h5 : 4096 < r * c
    · rw [if_pos h5]; omega
    · rw [if_neg h5]
      have : 0 ≤ r * c := Int.mul_nonneg (by omega) (by omega)
      omega
theorem cells_pos (r c n : Int) (h : cells r c = n) (hn : n ≠ 0) : n = r * c ∧ 1 ≤ r ∧ r ≤ 43 ∧ 1 ≤ c ∧ c ≤ 132 := by
  unfold cells at h
  by_cases h' : r < 1 ∨ 43 < r ∨ c < 1 ∨ 132 < c
  · rw [if_pos h'] at h; omega
  · rw [if_neg h'] at h
    by_cases h5 : 4096 < r * c
    · rw [if_pos h5] at h; omega
    · rw [if_neg h5] at h; omega
theorem cells_is (r c n : Int) (w : World) (h : cells r c = n) :
    Calls Try.prog 43 #[.agg #[.int .i64 r, .int .i64 c]] w fun e w' => e = .returned (.int .i64 n) ∧ Below w.heap.size w w' := by
  subst h; exact cells_any r c w
theorem rcells_is (r c n : Int) (w : World) (h : cells r c = n) :
    Calls Try.prog 41 #[.agg #[.int .i64 r, .int .i64 c]] w fun e w' => e = .returned (.int .i64 n) ∧ Below w.heap.size w w' := by
  subst h; exact rcells_any r c w
theorem below_box {w w' : World} {o : Obj} (hb : Below (w.alloc o).heap.size (w.alloc o) w') : Below w.heap.size w w' :=
  ((Below.refl _ _).alloc (Nat.le_refl _) _).trans (hb.mono (by simp))
theorem box_at {w w' : World} {x y : Value} {t : TypeId} (hb : Below (w.alloc (.cells #[x, y] t)).heap.size (w.alloc (.cells #[x, y] t)) w') :
    w'.cell? ⟨w.heap.size, 0, none⟩ = some x ∧ w'.cell? ⟨w.heap.size, 1, none⟩ = some y :=
  ⟨(hb.cell (p := ⟨w.heap.size, 0, none⟩) (by simp)).trans (by simp [go_sem]), (hb.cell (p := ⟨w.heap.size, 1, none⟩) (by simp)).trans (by simp [go_sem])⟩

/-- A place that is so many further on, of so many. -/
def mv (n a b : Int) : Int := if n = 0 then 0 else (a + b) % n
theorem tmod_bd (a n : Int) (h : 1 ≤ n) : -n < a.tmod n ∧ a.tmod n < n ∧ (a.tmod n) % n = a % n := by
  have h1 : 0 ≤ a % n := Int.emod_nonneg _ (by omega)
  have h2 : a % n < n := Int.emod_lt_of_pos _ (by omega)
  rcases tmod_cases a n (by omega) with e | ⟨h0, hz, e⟩
  · rw [e]; exact ⟨by omega, h2, Int.emod_emod_of_dvd _ (Int.dvd_refl n)⟩
  · rw [e]; refine ⟨by omega, by omega, ?_⟩
    rw [Int.sub_emod_right]; exact Int.emod_emod_of_dvd _ (Int.dvd_refl n)
theorem move_num (a b n : Int) (h0 : 1 ≤ n) (h1 : n ≤ 4096) : (wrap64 (wrap64 (a.tmod n + b.tmod n) + 2 * n)).tmod n = mv n a b := by
  obtain ⟨a1, a2, a3⟩ := tmod_bd a n h0
  obtain ⟨b1, b2, b3⟩ := tmod_bd b n h0
  rw [IntWalk.wrap64_in (a.tmod n + b.tmod n) (by omega), IntWalk.wrap64_in _ (by omega), Int.tmod_eq_emod_of_nonneg (by omega), Int.add_mul_emod_self_right, Int.add_emod, a3, b3, ← Int.add_emod]
  unfold mv; rw [if_neg (by omega)]

set_option maxHeartbeats 400000 in
theorem move_any (r c a b n : Int) (w : World) (hn : Hid (cells r c = n)) (n0 : 0 ≤ n) (n1 : n ≤ 4096) :
    Calls Try.prog 47 #[.agg #[.int .i64 r, .int .i64 c], .int .i64 a, .int .i64 b] w fun e w' => e = .returned (.int .i64 (mv n a b)) ∧ Below w.heap.size w w' := by
  by_cases h : n = 0
  · subst h
    go_enter Try.func47, Try.ntmps47
    go_wp2_with (go_at_call 43; refine (cells_is _ _ _ _ hn.out).mono ?_; rintro e w' ⟨rfl, hb⟩)
    go_ret
    exact ⟨rfl, below_box hb⟩
  · have n2 : 1 ≤ n := by omega
    go_enter Try.func47, Try.ntmps47
    go_wp2_with (go_at_call 43; refine (cells_is _ _ _ _ hn.out).mono ?_; rintro e w' ⟨rfl, hb⟩)
    go_quiet (fail)
    go_wp2
    go_ret
    exact ⟨ret_int (move_num a b n n2 n1), below_drewN (below_box hb) _⟩

theorem rmove_end (n s : Int) (k : Nat) (h0 : 1 ≤ n) (a b : Int) (hs : s = a.tmod n + b.tmod n + k * n) (hp : 0 ≤ s) : s.tmod n = mv n a b := by
  obtain ⟨a1, a2, a3⟩ := tmod_bd a n h0
  obtain ⟨b1, b2, b3⟩ := tmod_bd b n h0
  rw [Int.tmod_eq_emod_of_nonneg hp, hs, Int.add_mul_emod_self_right, Int.add_emod, a3, b3, ← Int.add_emod]
  unfold mv; rw [if_neg (by omega)]
theorem rmove_end' (n s : Int) (k : Nat) (h0 : 1 ≤ n) (a b : Int) (hs : s = a.tmod n + b.tmod n + k * n) (hp : 0 ≤ s) : s % n = mv n a b := by
  rw [← rmove_end n s k h0 a b hs hp, Int.tmod_eq_emod_of_nonneg hp]

set_option maxHeartbeats 400000 in
theorem rmove_any (r c a b n : Int) (w : World) (hn : Hid (cells r c = n)) (n0 : 0 ≤ n) (n1 : n ≤ 4096) :
    Calls Try.prog 48 #[.agg #[.int .i64 r, .int .i64 c], .int .i64 a, .int .i64 b] w fun e w' => e = .returned (.int .i64 (mv n a b)) ∧ Below w.heap.size w w' := by
  by_cases h : n = 0
  · subst h
    go_enter Try.func48, Try.ntmps48
    go_wp2_with (go_at_call 41; refine (rcells_is _ _ _ _ hn.out).mono ?_; rintro e w' ⟨rfl, hb⟩)
    go_ret
    exact ⟨rfl, below_box hb⟩
  · have n2 : 1 ≤ n := by omega
    have hz : (n == 0) = false := by simpa using h
    obtain ⟨a1, a2, _⟩ := tmod_bd a n n2
    obtain ⟨b1, b2, _⟩ := tmod_bd b n n2
    have hw : IntKind.i64.wrap (a.tmod n + b.tmod n) = a.tmod n + b.tmod n := IntWalk.i64_in _ (by omega)
    go_enter Try.func48, Try.ntmps48
    go_wp2_with (go_at_call 41; refine (rcells_is _ _ _ _ hn.out).mono ?_; rintro e w' ⟨rfl, hb⟩)
    go_quiet (fail)
    have HW := Lib.hid hw
    clear hw
    go_wp2
    go_loop [1] (fun t => ∃ (s : Int) (k : Nat), -2 * n < s ∧ s < 2 * n ∧ s = a.tmod n + b.tmod n + k * n ∧ t = .int .i64 s) (fun t => (2 * n - intOf t).toNat)
    case atStart => exact ⟨_, 0, by omega, by omega, by simp, rfl⟩
    case round =>
      obtain ⟨s, k, s1, s2, s3, rfl⟩ := hrel
      have S3 := Lib.hid s3
      clear s3 a1 a2 b1 b2
      by_cases hs : s < 0
      · go_wp2
        go_round
        case rel => exact ⟨s + n, k + 1, by omega, by omega, by rw [S3.out, Int.natCast_add, Int.add_mul]; omega, rfl⟩
        case measure => simp [intOf]; omega
      · have s4 : 0 ≤ s := by omega
        go_wp2
        go_ret
        exact ⟨ret_int (by first | exact rmove_end' n s k n2 a b S3.out s4 | exact rmove_end n s k n2 a b S3.out s4), below_drewN (below_box hb) _⟩

set_option maxHeartbeats 400000 in
theorem at_yes (r c x y n : Int) (w : World) (hn : Hid (cells r c = n)) (h0 : n ≠ 0) (x0 : 0 ≤ x) (x1 : x < r) (y0 : 0 ≤ y) (y1 : y < c) :
    Calls Try.prog 42 #[.agg #[.int .i64 r, .int .i64 c], .int .i64 x, .int .i64 y] w fun e w' => e = .returned (.tuple #[.int .i64 (x * c + y), .bool true]) ∧ Below w.heap.size w w' := by
  obtain ⟨_, r0, r1, c0, c1⟩ := cells_pos r c n hn.out h0
  have hz : (n == 0) = false := by simpa using h0
  have p0 : 0 ≤ x * c := Int.mul_nonneg x0 (by omega)
  have p1 : x * c ≤ 43 * c := Int.mul_le_mul_of_nonneg_right (by omega) (by omega)
  go_enter Try.func42, Try.ntmps42
  go_wp2_with (first | (go_at_call 43; refine (cells_is _ _ _ _ hn.out).mono ?_; rintro e w' ⟨rfl, hb⟩; obtain ⟨hc0, hc1⟩ := box_at hb) | (go_at_call 59; refine (inside_yes _ _ _ (by omega) (by omega)).mono ?_; rintro e w' ⟨rfl, rfl⟩))
  go_ret2
  exact ⟨rfl, below_box hb⟩
theorem at_no_cells (r c x y : Int) (w : World) (hn : Hid (cells r c = 0)) :
    Calls Try.prog 42 #[.agg #[.int .i64 r, .int .i64 c], .int .i64 x, .int .i64 y] w fun e w' => e = .returned (.tuple #[.int .i64 0, .bool false]) ∧ Below w.heap.size w w' := by
  go_enter Try.func42, Try.ntmps42
  go_wp2_with (first | (go_at_call 43; refine (cells_is _ _ _ _ hn.out).mono ?_; rintro e w' ⟨rfl, hb⟩; obtain ⟨hc0, hc1⟩ := box_at hb))
  go_ret2
  exact ⟨rfl, below_box hb⟩
theorem at_no_row (r c x y n : Int) (w : World) (hn : Hid (cells r c = n)) (h0 : n ≠ 0) (hx : x < 0 ∨ r ≤ x) :
    Calls Try.prog 42 #[.agg #[.int .i64 r, .int .i64 c], .int .i64 x, .int .i64 y] w fun e w' => e = .returned (.tuple #[.int .i64 0, .bool false]) ∧ Below w.heap.size w w' := by
  have hz : (n == 0) = false := by simpa using h0
  go_enter Try.func42, Try.ntmps42
  go_wp2_with (first | (go_at_call 43; refine (cells_is _ _ _ _ hn.out).mono ?_; rintro e w' ⟨rfl, hb⟩; obtain ⟨hc0, hc1⟩ := box_at hb) | (go_at_call 59; refine (inside_no _ _ _ (by omega)).mono ?_; rintro e w' ⟨rfl, rfl⟩))
  go_ret2
  exact ⟨rfl, below_box hb⟩
theorem at_no_col (r c x y n : Int) (w : World) (hn : Hid (cells r c = n)) (h0 : n ≠ 0) (x0 : 0 ≤ x) (x1 : x < r) (hy : y < 0 ∨ c ≤ y) :
    Calls Try.prog 42 #[.agg #[.int .i64 r, .int .i64 c], .int .i64 x, .int .i64 y] w fun e w' => e = .returned (.tuple #[.int .i64 0, .bool false]) ∧ Below w.heap.size w w' := by
  have hz : (n == 0) = false := by simpa using h0
  go_enter Try.func42, Try.ntmps42
  go_wp2_with (first | (go_at_call 43; refine (cells_is _ _ _ _ hn.out).mono ?_; rintro e w' ⟨rfl, hb⟩; obtain ⟨hc0, hc1⟩ := box_at hb) | (go_at_call 59; first | ((with_reducible refine (inside_yes _ _ _ x0 x1).mono ?_); rintro e w' ⟨rfl, rfl⟩) | ((with_reducible refine (inside_no _ _ _ hy).mono ?_); rintro e w' ⟨rfl, rfl⟩)))
  go_ret2
  exact ⟨rfl, below_box hb⟩

theorem ret_split {a b a' b' : Int} {t : Bool} (h : a = a') (h' : b = b') : Ending.returned (.tuple #[.int .i64 a, .int .i64 b, .bool t]) = .returned (.tuple #[.int .i64 a', .int .i64 b', .bool t]) := by rw [h, h']
set_option maxHeartbeats 400000 in
theorem split_yes (r c p n : Int) (w : World) (hn : Hid (cells r c = n)) (p0 : 0 ≤ p) (p1 : p < n) :
    Calls Try.prog 44 #[.agg #[.int .i64 r, .int .i64 c], .int .i64 p] w fun e w' => e = .returned (.tuple #[.int .i64 (p / c), .int .i64 (p % c), .bool true]) ∧ Below w.heap.size w w' := by
  obtain ⟨_, r0, r1, c0, c1⟩ := cells_pos r c n hn.out (by omega)
  have n1 := (cells_bd r c).2
  rw [hn.out] at n1
  have hz : (c == 0) = false := by simp; omega
  go_enter Try.func44, Try.ntmps44
  go_wp2_with (first | (go_at_call 43; refine (cells_is _ _ _ _ hn.out).mono ?_; rintro e w' ⟨rfl, hb⟩; obtain ⟨hc0, hc1⟩ := box_at hb) | (go_at_call 59; refine (inside_yes _ _ _ (by omega) (by omega)).mono ?_; rintro e w' ⟨rfl, rfl⟩))
  go_quiet (fail)
  go_wp2
  go_ret3
  exact ⟨ret_split rfl rfl, below_drewN (below_box hb) _⟩
theorem split_no (r c p n : Int) (w : World) (hn : Hid (cells r c = n)) (hp : p < 0 ∨ n ≤ p) :
    Calls Try.prog 44 #[.agg #[.int .i64 r, .int .i64 c], .int .i64 p] w fun e w' => e = .returned (.tuple #[.int .i64 0, .int .i64 0, .bool false]) ∧ Below w.heap.size w w' := by
  go_enter Try.func44, Try.ntmps44
  go_wp2_with (first | (go_at_call 43; refine (cells_is _ _ _ _ hn.out).mono ?_; rintro e w' ⟨rfl, hb⟩; obtain ⟨hc0, hc1⟩ := box_at hb) | (go_at_call 59; refine (inside_no _ _ _ (by omega)).mono ?_; rintro e w' ⟨rfl, rfl⟩))
  go_ret3
  exact ⟨rfl, below_box hb⟩

end Go.Proofs.Ytpmcpllcfmgpgaa
