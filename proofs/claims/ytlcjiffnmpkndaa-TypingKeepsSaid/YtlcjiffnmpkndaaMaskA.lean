/-
  Masks of numbers.
-/
import Derived.Test.YtlcjiffnmpkndaaBase
namespace Go.Proofs.Ytlcjiffnmpkndaa.Mask
open Go.RowKit Base
set_option linter.unusedVariables false

theorem mask64 (n : Int) (m k : Nat) (hk : k ≤ 63) (hm : (BitVec.ofInt 64 (m : Int)).toNat = 2 ^ k - 1) (hp : (2 ^ k : Nat) ≤ 9223372036854775807) : bits .and .i64 n (m : Int) = n % ((2 ^ k : Nat) : Int) := by
  have key : (BitVec.ofInt 64 n &&& BitVec.ofInt 64 (m : Int)).toNat = (n % ((2 ^ 64 : Nat) : Int)).toNat % 2 ^ k := by
    rw [BitVec.toNat_and, BitVec.toNat_ofInt, hm, Nat.and_two_pow_sub_one_eq_mod]
  show IntKind.i64.wrap ((BitVec.ofInt 64 n &&& BitVec.ofInt 64 (m : Int)).toNat : Nat) = n % ((2 ^ k : Nat) : Int)
  rw [key]
  have hpos : 0 < 2 ^ k := Nat.two_pow_pos k
  have hdvd : ((2 ^ k : Nat) : Int) ∣ ((2 ^ 64 : Nat) : Int) := by
    have : 2 ^ k ∣ 2 ^ 64 := Nat.pow_dvd_pow 2 (by omega)
    exact Int.natCast_dvd_natCast.mpr this
  have h0 : 0 ≤ n % ((2 ^ 64 : Nat) : Int) := Int.emod_nonneg _ (by decide)
  have h1 : (((n % ((2 ^ 64 : Nat) : Int)).toNat % 2 ^ k : Nat) : Int) = n % ((2 ^ k : Nat) : Int) := by
    rw [Int.natCast_emod, Int.toNat_of_nonneg h0, Int.emod_emod_of_dvd _ hdvd]
  have h2 : n % ((2 ^ k : Nat) : Int) < ((2 ^ k : Nat) : Int) := Int.emod_lt_of_pos _ (by omega)
  have h3 : 0 ≤ n % ((2 ^ k : Nat) : Int) := Int.emod_nonneg _ (by omega)
  rw [h1]
  exact IntWalk.i64_in _ (by omega)
theorem mask_nat (n : Int) (m k p : Nat) (hk : k ≤ 62) (hp : 2 ^ k = p) (hm : m + 1 = p) : ∃ j : Nat, bits .and .i64 n (m : Int) = (j : Int) ∧ j < p ∧ (j : Int) = n % (p : Int) := by
  have hle : (2 ^ k : Nat) ≤ 2 ^ 62 := Nat.pow_le_pow_right (by omega) hk
  have hb : (2 ^ 62 : Nat) = 4611686018427387904 := by decide
  rw [hb, hp] at hle
  have h := mask64 n m k (by omega) (by
    rw [BitVec.toNat_ofInt, hp]
    have hq : (2 ^ 64 : Nat) = 18446744073709551616 := by decide
    rw [hq]
    omega) (by rw [hp]; omega)
  rw [hp] at h
  have h0 : 0 ≤ n % (p : Int) := Int.emod_nonneg _ (by omega)
  have h2 : n % (p : Int) < (p : Int) := Int.emod_lt_of_pos _ (by omega)
  exact ⟨(n % (p : Int)).toNat, by rw [h]; omega, by omega, by omega⟩
end Go.Proofs.Ytlcjiffnmpkndaa.Mask
