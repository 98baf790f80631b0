/-
  Contracts of the functions of package addr, and of its reference, that only compute with numbers: each call returns the number that the plain definitions say, and leaves all that was in memory as it was.
-/
import Derived.Test.YtpmcpllcfmgpgaaAddrA
namespace Go.Proofs.Ytpmcpllcfmgpgaa
open Go.RowKit
theorem ret_int {k : IntKind} {a b : Int} (h : a = b) : Ending.returned (.int k a) = .returned (.int k b) := by rw [h]
theorem ret_bool {a b : Bool} (h : a = b) : Ending.returned (.bool a) = .returned (.bool b) := by rw [h]

theorem tmod_cases (a n : Int) (hn : 0 < n) : a.tmod n = a % n ∨ (a < 0 ∧ a % n ≠ 0 ∧ a.tmod n = a % n - n) := by
  rw [Int.tmod_eq_emod]
  by_cases h : 0 ≤ a ∨ n ∣ a
  · left; rw [if_pos h]; omega
  · right; rw [if_neg h]
    refine ⟨by omega, fun h0 => h (Or.inr (Int.dvd_of_emod_eq_zero h0)), by omega⟩

/-- How many cells a size has. -/
def cells (r c : Int) : Int := if r < 1 ∨ 43 < r ∨ c < 1 ∨ 132 < c then 0 else if 4096 < r * c then 0 else r * c

set_option maxHeartbeats 400000 in
theorem inside_any (a m : Int) (w : World) :
    Calls Try.prog 59 #[.int .i64 a, .int .i64 m] w fun e w' => e = .returned (.bool (decide (0 ≤ a ∧ a < m))) ∧ w = w' := by
  by_cases h1 : 0 ≤ a <;> by_cases h2 : a < m <;>
  · go_enter Try.func59, Try.ntmps59
    go_wp2
    go_ret
    exact ⟨by simp [h1, h2], rfl⟩

set_option maxHeartbeats 400000 in
theorem cells_any (r c : Int) (w : World) :
    Calls Try.prog 43 #[.agg #[.int .i64 r, .int .i64 c]] w fun e w' => e = .returned (.int .i64 (cells r c)) ∧ Below w.heap.size w w' := by
  by_cases h1 : r < 1
  · go_enter Try.func43, Try.ntmps43
    go_wp2
    go_ret
    exact ⟨ret_int (by simp [cells, *]), (Below.refl _ _).alloc (Nat.le_refl _) _⟩
  by_cases h2 : 43 < r
  · go_enter Try.func43, Try.ntmps43
    go_wp2
    go_ret
    exact ⟨ret_int (by simp [cells, *]), (Below.refl _ _).alloc (Nat.le_refl _) _⟩
  by_cases h3 : c < 1
  · go_enter Try.func43, Try.ntmps43
    go_wp2
    go_ret
    exact ⟨ret_int (by simp [cells, *]), (Below.refl _ _).alloc (Nat.le_refl _) _⟩
  by_cases h4 : 132 < c
  · go_enter Try.func43, Try.ntmps43
    go_wp2
    go_ret
    exact ⟨ret_int (by simp [cells, *]), (Below.refl _ _).alloc (Nat.le_refl _) _⟩
  have p0 : 0 ≤ r * c := Int.mul_nonneg (by omega) (by omega)
  have p1 : r * c ≤ 5676 := by
    have a : r * c ≤ 43 * c := Int.mul_le_mul_of_nonneg_right (by omega) (by omega)
    omega
  by_cases h5 : 4096 < r * c
  · go_enter Try.func43, Try.ntmps43
    go_wp2
    go_ret
    exact ⟨ret_int (by rw [cells, if_neg (by omega), if_pos h5]), (Below.refl _ _).alloc (Nat.le_refl _) _⟩
  · go_enter Try.func43, Try.ntmps43
    go_wp2
    go_ret
    exact ⟨ret_int (by rw [cells, if_neg (by omega), if_neg (by omega)]), (Below.refl _ _).alloc (Nat.le_refl _) _⟩

set_option maxHeartbeats 400000 in
theorem rcells_any (r c : Int) (w : World) :
    Calls Try.prog 41 #[.agg #[.int .i64 r, .int .i64 c]] w fun e w' => e = .returned (.int .i64 (cells r c)) ∧ Below w.heap.size w w' := by
  by_cases h1 : r < 1
  · go_enter Try.func41, Try.ntmps41
    go_wp2
    go_ret
    exact ⟨ret_int (by simp [cells, *]), (Below.refl _ _).alloc (Nat.le_refl _) _⟩
  by_cases h2 : 43 < r
  · go_enter Try.func41, Try.ntmps41
    go_wp2
    go_ret
    exact ⟨ret_int (by simp [cells, *]), (Below.refl _ _).alloc (Nat.le_refl _) _⟩
  by_cases h3 : c < 1
  · go_enter Try.func41, Try.ntmps41
    go_wp2
    go_ret
    exact ⟨ret_int (by simp [cells, *]), (Below.refl _ _).alloc (Nat.le_refl _) _⟩
  by_cases h4 : 132 < c
  · go_enter Try.func41, Try.ntmps41
    go_wp2
    go_ret
    exact ⟨ret_int (by simp [cells, *]), (Below.refl _ _).alloc (Nat.le_refl _) _⟩
  have p0 : 0 ≤ r * c := Int.mul_nonneg (by omega) (by omega)
  have p1 : r * c ≤ 5676 := by
    have a : r * c ≤ 43 * c := Int.mul_le_mul_of_nonneg_right (by omega) (by omega)
    omega
  by_cases h5 : 4096 < r * c
  · go_enter Try.func41, Try.ntmps41
    go_wp2
    go_ret
    exact ⟨ret_int (by rw [cells, if_neg (by omega), if_pos h5]), (Below.refl _ _).alloc (Nat.le_refl _) _⟩
  · go_enter Try.func41, Try.ntmps41
    go_wp2
    go_ret
    exact ⟨ret_int (by rw [cells, if_neg (by omega), if_neg (by omega)]), (Below.refl _ _).alloc (Nat.le_refl _) _⟩

/-- The digit of a number from 0 to 63. -/
def dig (v : Int) : Int := if (1 ≤ v % 16 ∧ v % 16 ≤ 9 ∧ v ≠ 33) ∨ v = 48 then 192 + v else 64 + v

set_option maxHeartbeats 400000 in
theorem digit_any (v : Int) (w : World) :
    Calls Try.prog 35 #[.int .i64 v] w fun e w' => e = .returned (.int .u8 (dig (v % 64))) ∧ w = w' := by
  have e1 := and63 v
  have b0 : 0 ≤ v % 64 := by omega
  have b1 : v % 64 ≤ 63 := by omega
  obtain ⟨l, hl⟩ : ∃ l, l = v % 64 := ⟨_, rfl⟩
  rw [← hl] at e1 b0 b1
  rw [← hl]
  clear hl
  by_cases h1 : 1 ≤ l % 16
  · by_cases h2 : l % 16 ≤ 9
    · by_cases h3 : l = 33
      · subst h3
        go_enter Try.func35, Try.ntmps35
        go_wp2
        go_ret
        exact ⟨rfl, rfl⟩
      · go_enter Try.func35, Try.ntmps35
        go_wp2
        go_ret
        exact ⟨ret_int (by unfold dig; rw [if_pos (Or.inl ⟨h1, h2, h3⟩)]), rfl⟩
    · have h3 : l ≠ 48 := by omega
      go_enter Try.func35, Try.ntmps35
      go_wp2
      go_ret
      exact ⟨ret_int (by unfold dig; rw [if_neg (by omega)]), rfl⟩
  · by_cases h3 : l = 48
    · subst h3
      go_enter Try.func35, Try.ntmps35
      go_wp2
      go_ret
      exact ⟨rfl, rfl⟩
    · go_enter Try.func35, Try.ntmps35
      go_wp2
      go_ret
      exact ⟨ret_int (by unfold dig; rw [if_neg (by omega)]), rfl⟩

set_option maxHeartbeats 400000 in
theorem rdigit_any (l : Int) (w : World) (b0 : 0 ≤ l) (b1 : l ≤ 63) :
    Calls Try.prog 36 #[.int .i64 l] w fun e w' => e = .returned (.int .u8 (dig l)) ∧ w = w' := by
  by_cases h1 : 1 ≤ l % 16
  · by_cases h2 : l % 16 ≤ 9
    · by_cases h3 : l = 33
      · subst h3
        go_enter Try.func36, Try.ntmps36
        go_wp2
        go_ret
        exact ⟨rfl, rfl⟩
      · go_enter Try.func36, Try.ntmps36
        go_wp2
        go_ret
        exact ⟨ret_int (by unfold dig; rw [if_pos (Or.inl ⟨h1, h2, h3⟩)]), rfl⟩
    · have h3 : l ≠ 48 := by omega
      go_enter Try.func36, Try.ntmps36
      go_wp2
      go_ret
      exact ⟨ret_int (by unfold dig; rw [if_neg (by omega)]), rfl⟩
  · by_cases h3 : l = 48
    · subst h3
      go_enter Try.func36, Try.ntmps36
      go_wp2
      go_ret
      exact ⟨rfl, rfl⟩
    · go_enter Try.func36, Try.ntmps36
      go_wp2
      go_ret
      exact ⟨ret_int (by unfold dig; rw [if_neg (by omega)]), rfl⟩

set_option maxHeartbeats 400000 in
theorem low_any (v : Int) (w : World) (b0 : -9223372036854775808 ≤ v) (b1 : v ≤ 9223372036854775807) :
    Calls Try.prog 37 #[.int .i64 v] w fun e w' => e = .returned (.int .i64 (v % 64)) ∧ w = w' := by
  by_cases h0 : 0 ≤ v
  · have h1 : 0 ≤ v % 64 := by omega
    go_enter Try.func37, Try.ntmps37
    go_wp2
    go_ret
    exact ⟨rfl, rfl⟩
  · have ht := tmod_cases v 64 (by omega)
    by_cases h1 : v.tmod 64 < 0
    · have h2 : -64 < v.tmod 64 := by omega
      go_enter Try.func37, Try.ntmps37
      go_wp2
      go_ret
      exact ⟨ret_int (by omega), rfl⟩
    · go_enter Try.func37, Try.ntmps37
      go_wp2
      go_ret
      exact ⟨ret_int (by omega), rfl⟩

theorem u8_and63 (b : Int) (h0 : 0 ≤ b) (h1 : b ≤ 255) : bits .and .u8 b 63 = b % 64 := by
  rw [u8_and b 63 h0 (by omega) (by decide) (by decide), show (63 : Int).toNat = 63 from rfl, nat_mask6]
  omega

set_option maxHeartbeats 400000 in
theorem value_any (b : Int) (w : World) (b0 : 0 ≤ b) (b1 : b ≤ 255) :
    Calls Try.prog 38 #[.int .u8 b] w fun e w' => e = .returned (.int .i64 (b % 64)) ∧ w = w' := by
  have e1 := u8_and63 b b0 b1
  have b2 : 0 ≤ b % 64 := by omega
  have b3 : b % 64 ≤ 63 := by omega
  go_enter Try.func38, Try.ntmps38
  go_wp2
  go_ret
  exact ⟨rfl, rfl⟩

end Go.Proofs.Ytpmcpllcfmgpgaa
