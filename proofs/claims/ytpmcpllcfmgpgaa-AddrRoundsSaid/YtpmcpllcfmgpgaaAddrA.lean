/-
  Contracts of the functions of package addr, and of its reference, that only compute with numbers: each call returns the number that the plain definitions below say, and leaves all that was in memory as it was.
-/
import Derived.Test.YtpmcpllcfmgpgaaRows
import Derived.WalkKit
import Derived.WalkSpells
import Derived.WalkLawsBesides
import Derived.Deep.QuietTactic
import Derived.BigQuiet
import Derived.Outline
import Derived.Laws.Bits128
import Derived.Lib.Hide
namespace Go.Proofs.Ytpmcpllcfmgpgaa
open Go.RowKit

/-! ### Numbers -/
theorem i64_mask (n : Int) (m k : Nat) (hk : k ≤ 63) (hm : (BitVec.ofInt 64 (m : Int)).toNat = 2 ^ k - 1) (hp : (2 ^ k : Nat) ≤ 9223372036854775807) : bits .and .i64 n (m : Int) = n % ((2 ^ k : Nat) : Int) := by
  have key : (BitVec.ofInt 64 n &&& BitVec.ofInt 64 (m : Int)).toNat = (n % ((2 ^ 64 : Nat) : Int)).toNat % 2 ^ k := by
    rw [BitVec.toNat_and, BitVec.toNat_ofInt, hm, Nat.and_two_pow_sub_one_eq_mod]
  show IntKind.i64.wrap ((BitVec.ofInt 64 n &&& BitVec.ofInt 64 (m : Int)).toNat : Nat) = n % ((2 ^ k : Nat) : Int)
  rw [key]
  have hpos : 0 < 2 ^ k := Nat.two_pow_pos k
  have hdvd : ((2 ^ k : Nat) : Int) ∣ ((2 ^ 64 : Nat) : Int) := by
    have : 2 ^ k ∣ 2 ^ 64 := Nat.pow_dvd_pow 2 (by omega)
    exact Int.natCast_dvd_natCast.mpr this
  have h0 : 0 ≤ n % ((2 ^ 64 : Nat) : Int) := Int.emod_nonneg _ (by decide)
  have h1 : (((n % ((2 ^ 64 : Nat) : Int)).toNat % 2 ^ k : Nat) : Int) = n % ((2 ^ k : Nat) : Int) := by
    rw [Int.natCast_emod, Int.toNat_of_nonneg h0, Int.emod_emod_of_dvd _ hdvd]
  have h2 : n % ((2 ^ k : Nat) : Int) < ((2 ^ k : Nat) : Int) := Int.emod_lt_of_pos _ (by omega)
  have h3 : 0 ≤ n % ((2 ^ k : Nat) : Int) := Int.emod_nonneg _ (by omega)
  rw [h1]
  exact IntWalk.i64_in _ (by omega)

theorem and63 (n : Int) : bits .and .i64 n 63 = n % 64 := i64_mask n 63 6 (by decide) (by decide) (by decide)
theorem and4095 (n : Int) : bits .and .i64 n 4095 = n % 4096 := i64_mask n 4095 12 (by decide) (by decide) (by decide)
theorem and16383 (n : Int) : bits .and .i64 n 16383 = n % 16384 := i64_mask n 16383 14 (by decide) (by decide) (by decide)
theorem and65535 (n : Int) : bits .and .i64 n 65535 = n % 65536 := i64_mask n 65535 16 (by decide) (by decide) (by decide)
end Go.Proofs.Ytpmcpllcfmgpgaa
