/-
  Places of package addr, and of its reference.
-/
import Derived.Test.YtmmgebiojpnhcaaDoorDigA
namespace Go.Proofs.YtmmgebiojpnhcaaDoor.Dig
open Go.RowKit Base
set_option linter.unusedVariables false

theorem u8_and63 (b : Int) (h0 : 0 ≤ b) (h1 : b ≤ 255) : bits .and .u8 b 63 = b % 64 := by
  rw [u8_and b 63 h0 (by omega) (by decide) (by decide), show (63 : Int).toNat = 63 from rfl, nat_mask6]
  omega

set_option maxHeartbeats 400000 in
theorem value_any (b : Int) (w : World) (b0 : 0 ≤ b) (b1 : b ≤ 255) :
    Calls Tryd.prog 56 #[.int .u8 b] w fun e w' => e = .returned (.int .i64 (b % 64)) ∧ w = w' := by
  have e1 := u8_and63 b b0 b1
  have b2 : 0 ≤ b % 64 := by omega
  have b3 : b % 64 ≤ 63 := by omega
  go_enter Tryd.func56, Tryd.ntmps56
  go_wp2
  go_ret
  exact ⟨rfl, rfl⟩

/-- The two bytes and the error of a place. -/
def encA (p n : Int) : Int := if n < 1 ∨ 16384 < n ∨ p < 0 ∨ n ≤ p then 0 else if n ≤ 4096 then dig (p / 64) else p / 256
def encB (p n : Int) : Int := if n < 1 ∨ 16384 < n ∨ p < 0 ∨ n ≤ p then 0 else if n ≤ 4096 then dig (p % 64) else p % 256
def encE (p n : Int) : Int := if n < 1 ∨ 16384 < n ∨ p < 0 ∨ n ≤ p then 1 else 0
theorem enc_bad (p n : Int) (h : n < 1 ∨ 16384 < n ∨ p < 0 ∨ n ≤ p) : encA p n = 0 ∧ encB p n = 0 ∧ encE p n = 1 := by
  unfold encA encB encE; rw [if_pos h, if_pos h, if_pos h]; exact ⟨rfl, rfl, rfl⟩
theorem enc_small (p n : Int) (h : ¬ (n < 1 ∨ 16384 < n ∨ p < 0 ∨ n ≤ p)) (h' : n ≤ 4096) : encA p n = dig (p / 64) ∧ encB p n = dig (p % 64) ∧ encE p n = 0 := by
  unfold encA encB encE; rw [if_neg h, if_neg h, if_neg h, if_pos h', if_pos h']; exact ⟨rfl, rfl, rfl⟩
theorem enc_great (p n : Int) (h : ¬ (n < 1 ∨ 16384 < n ∨ p < 0 ∨ n ≤ p)) (h' : ¬ n ≤ 4096) : encA p n = p / 256 ∧ encB p n = p % 256 ∧ encE p n = 0 := by
  unfold encA encB encE; rw [if_neg h, if_neg h, if_neg h, if_neg h', if_neg h']; exact ⟨rfl, rfl, rfl⟩
theorem ret_enc {a b e a' b' e' : Int} (h : a' = a ∧ b' = b ∧ e' = e) : Ending.returned (.tuple #[.agg #[.int .u8 a, .int .u8 b], .int .i64 e]) = .returned (.tuple #[.agg #[.int .u8 a', .int .u8 b'], .int .i64 e']) := by
  obtain ⟨rfl, rfl, rfl⟩ := h; rfl
theorem dig_div (p n : Int) (h : ¬ (n < 1 ∨ 16384 < n ∨ p < 0 ∨ n ≤ p)) (h' : n ≤ 4096) : p / 64 % 64 = p / 64 := by omega

set_option maxHeartbeats 400000 in
theorem inside_any (a m : Int) (w : World) :
    Calls Tryd.prog 78 #[.int .i64 a, .int .i64 m] w fun e w' => e = .returned (.bool (decide (0 ≤ a ∧ a < m))) ∧ w = w' := by
  by_cases h1 : 0 ≤ a <;> by_cases h2 : a < m <;>
  · go_enter Tryd.func78, Tryd.ntmps78
    go_wp2
    go_ret
    exact ⟨by simp [h1, h2], rfl⟩
theorem inside_yes (a m : Int) (w : World) (h1 : 0 ≤ a) (h2 : a < m) :
    Calls Tryd.prog 78 #[.int .i64 a, .int .i64 m] w fun e w' => e = .returned (.bool true) ∧ w = w' :=
  (inside_any a m w).mono fun _ _ ⟨he, hw⟩ => ⟨he.trans (ret_bool (decide_eq_true ⟨h1, h2⟩)), hw⟩

set_option maxHeartbeats 400000 in
theorem encode_any (p n : Int) (w : World) (p0 : -9223372036854775808 ≤ p) (p1 : p ≤ 9223372036854775807) :
    Calls Tryd.prog 69 #[.int .i64 p, .int .i64 n] w fun e w' => e = .returned (.tuple #[.agg #[.int .u8 (encA p n), .int .u8 (encB p n)], .int .i64 (encE p n)]) ∧ Below w.heap.size w w' := by
  by_cases h1 : 16384 < n
  · go_enter Tryd.func69, Tryd.ntmps69
    go_wp2
    exact bodyPost_ret (v := .tuple #[.agg #[.int .u8 0, .int .u8 0], .int .i64 1]) (by simp [results, Tryd.results69, go_sem]) rfl ⟨ret_enc (enc_bad p n (by omega)), (Below.refl _ _).alloc (Nat.le_refl _) _⟩
  by_cases h2 : 0 ≤ p
  · by_cases h3 : p < n
    · by_cases h4 : n ≤ 4096
      · have hd := dig_div p n (by omega) h4
        have H := Lib.hid hd
        clear hd
        go_enter Tryd.func69, Tryd.ntmps69
        go_wp2_with (first | (go_at_call 78; refine (inside_yes _ _ _ h2 h3).mono ?_; rintro e w' ⟨rfl, rfl⟩) | (go_at_call 79; refine (digit_any _ _).mono ?_; rintro e w' ⟨rfl, rfl⟩))
        exact bodyPost_ret (v := .tuple #[.agg #[.int .u8 (dig (p / 64 % 64)), .int .u8 (dig (p % 64))], .int .i64 0]) (by simp [results, Tryd.results69, go_sem]) rfl ⟨ret_enc (by rw [H.out]; exact enc_small p n (by omega) (by omega)), (Below.refl _ _).alloc (Nat.le_refl _) _⟩
      · go_enter Tryd.func69, Tryd.ntmps69
        go_wp2
        exact bodyPost_ret (v := .tuple #[.agg #[.int .u8 (p / 256), .int .u8 (p % 256)], .int .i64 0]) (by simp [results, Tryd.results69, go_sem]) rfl ⟨ret_enc (enc_great p n (by omega) (by omega)), (Below.refl _ _).alloc (Nat.le_refl _) _⟩
    · go_enter Tryd.func69, Tryd.ntmps69
      go_wp2
      exact bodyPost_ret (v := .tuple #[.agg #[.int .u8 0, .int .u8 0], .int .i64 1]) (by simp [results, Tryd.results69, go_sem]) rfl ⟨ret_enc (enc_bad p n (by omega)), (Below.refl _ _).alloc (Nat.le_refl _) _⟩
  · go_enter Tryd.func69, Tryd.ntmps69
    go_wp2
    exact bodyPost_ret (v := .tuple #[.agg #[.int .u8 0, .int .u8 0], .int .i64 1]) (by simp [results, Tryd.results69, go_sem]) rfl ⟨ret_enc (enc_bad p n (by omega)), (Below.refl _ _).alloc (Nat.le_refl _) _⟩

/-- Two bytes as a place. -/
def decP (a b : Int) : Int := if a < 64 then 256 * a + b else 64 * (a % 64) + b % 64
theorem u8_shr6 (a : Int) (h0 : 0 ≤ a) (h1 : a ≤ 255) : IntKind.u8.wrap (a / 64) = a / 64 := IntWalk.u8_in _ (by omega)

set_option maxHeartbeats 400000 in
theorem decode_any (a b : Int) (w : World) (a0 : 0 ≤ a) (a1 : a ≤ 255) (b0 : 0 ≤ b) (b1 : b ≤ 255) :
    Calls Tryd.prog 71 #[.int .u8 a, .int .u8 b] w fun e w' => e = .returned (.int .i64 (decP a b)) ∧ w = w' := by
  by_cases h : a < 64
  · go_enter Tryd.func71, Tryd.ntmps71
    go_wp2_with (go_at_call 56; refine (value_any _ _ (by omega) (by omega)).mono ?_; rintro e w' ⟨rfl, rfl⟩)
    go_ret
    exact ⟨ret_int (by unfold decP; rw [if_pos h]; omega), rfl⟩
  · go_enter Tryd.func71, Tryd.ntmps71
    go_wp2_with (go_at_call 56; refine (value_any _ _ (by omega) (by omega)).mono ?_; rintro e w' ⟨rfl, rfl⟩)
    go_ret
    exact ⟨ret_int (by unfold decP; rw [if_neg (by omega)]; omega), rfl⟩

set_option maxHeartbeats 400000 in
theorem rdecode_any (a b : Int) (w : World) (a0 : 0 ≤ a) (a1 : a ≤ 255) (b0 : 0 ≤ b) (b1 : b ≤ 255) :
    Calls Tryd.prog 58 #[.int .u8 a, .int .u8 b] w fun e w' => e = .returned (.int .i64 (decP a b)) ∧ w = w' := by
  by_cases h : a < 64
  · go_enter Tryd.func58, Tryd.ntmps58
    go_wp2
    go_ret
    exact ⟨ret_int (by unfold decP; rw [if_pos h]), rfl⟩
  · go_enter Tryd.func58, Tryd.ntmps58
    go_wp2
    go_ret
    exact ⟨ret_int (by unfold decP; rw [if_neg (by omega)]), rfl⟩

end Go.Proofs.YtmmgebiojpnhcaaDoor.Dig
