/-
  The walk of AddrBack: it returns true whatever comes, and leaves all that was in memory as it was.
-/
import Derived.Test.YtpmcpllcfmgpgaaAddrH
namespace Go.Proofs.Ytpmcpllcfmgpgaa
open Go.RowKit
set_option linter.unusedVariables false
theorem dig_val (v : Int) (h0 : 0 ≤ v) (h1 : v ≤ 63) : dig v % 64 = v ∧ 64 ≤ dig v ∧ dig v ≤ 254 := by
  unfold dig
  split <;> omega
theorem enc_dec (p n : Int) (h : ¬ (n < 1 ∨ 16384 < n ∨ p < 0 ∨ n ≤ p)) : decP (encA p n) (encB p n) = p ∧ encE p n = 0 ∧ 0 ≤ encA p n ∧ encA p n ≤ 255 ∧ 0 ≤ encB p n ∧ encB p n ≤ 255 ∧ (n ≤ 4096 → 64 ≤ encA p n) := by
  by_cases h4 : n ≤ 4096
  · obtain ⟨e1, e2, e3⟩ := enc_small p n h h4
    obtain ⟨a1, a2, a3⟩ := dig_val (p / 64) (by omega) (by omega)
    obtain ⟨b1, b2, b3⟩ := dig_val (p % 64) (by omega) (by omega)
    rw [e1, e2, e3]
    unfold decP
    rw [if_neg (by omega)]
    omega
  · obtain ⟨e1, e2, e3⟩ := enc_great p n h h4
    rw [e1, e2, e3]
    unfold decP
    rw [if_pos (by omega)]
    omega

set_option maxHeartbeats 1000000 in
theorem addrBack_walk (a : Int) (ha : (Lit.int .i64 a).wf = true) (m : Int) (hm : (Lit.int .i64 m).wf = true) (w : World) :
    Calls Try.prog 11 #[.int .i64 a, .int .i64 m] w fun e w' => e = .returned (.bool true) ∧ Below w.heap.size w w' := by
  clear ha hm
  have e1 := and16383 m
  have e2 := and16383 a
  obtain ⟨k, hk⟩ : ∃ k, k = m % 16384 := ⟨_, rfl⟩
  have k0 : 0 ≤ k := by omega
  have k1 : k ≤ 16383 := by omega
  rw [← hk] at e1
  clear hk
  obtain ⟨j, hj⟩ : ∃ j, j = a % 16384 := ⟨_, rfl⟩
  have j0 : 0 ≤ j := by omega
  have j1 : j ≤ 16383 := by omega
  rw [← hj] at e2
  clear hj
  obtain ⟨p, hp⟩ : ∃ p, p = j % (1 + k) := ⟨_, rfl⟩
  have p0 : 0 ≤ p := by rw [hp]; exact Int.emod_nonneg _ (by omega)
  have p1 : p < 1 + k := by rw [hp]; exact Int.emod_lt_of_pos _ (by omega)
  have e3 := hp.symm
  clear hp
  obtain ⟨d1, d2, d3, d4, d5, d6, d7⟩ := enc_dec p (1 + k) (by omega)
  obtain ⟨x, hx⟩ : ∃ x, x = encA p (1 + k) := ⟨_, rfl⟩
  obtain ⟨y, hy⟩ : ∃ y, y = encB p (1 + k) := ⟨_, rfl⟩
  rw [← hx] at d1 d3 d4 d7
  rw [← hy] at d1 d5 d6
  have X : Hid (encA p (1 + k) = x ∧ encB p (1 + k) = y ∧ encE p (1 + k) = 0 ∧ decP x y = p) := ⟨hx.symm, hy.symm, d2, d1⟩
  clear hx hy d1 d2
  have e4 := and63 p
  obtain ⟨v, hv⟩ : ∃ v, v = p % 64 := ⟨_, rfl⟩
  have v0 : 0 ≤ v := by omega
  have v1 : v ≤ 63 := by omega
  rw [← hv] at e4
  clear hv
  have hv2 : v % 64 = v := by omega
  obtain ⟨g1, g2, g3⟩ := dig_val v v0 v1
  obtain ⟨z, hz⟩ : ∃ z, z = dig v := ⟨_, rfl⟩
  rw [← hz] at g1 g2 g3
  have Z : Hid (dig (v % 64) = z ∧ z % 64 = v) := ⟨by rw [hv2]; exact hz.symm, g1⟩
  clear hz hv2 g1
  have g4 : (z != 255) = true := by simp; omega
  by_cases h4 : 4096 < 1 + k
  · have h4b : 4096 ≤ k := by omega
    clear d7
    go_enter Try.func11, Try.ntmps11
    go_wp2_with fail
    refine (alive2_any _).mono ?_
    rintro e w1 ⟨rfl, hb1⟩
    go_wp2_with fail
    refine ((encode_any p (1 + k) _ (by omega) (by omega)).mono (R' := fun e w' => e = .returned (.tuple #[.agg #[.int .u8 x, .int .u8 y], .int .i64 0]) ∧ Below w1.heap.size w1 w') fun _ _ ⟨he, hw⟩ => ⟨he.trans (ret_enc ⟨X.out.1.symm, X.out.2.1.symm, X.out.2.2.1.symm⟩), hw⟩).mono ?_
    rintro e w2 ⟨rfl, hb2⟩
    have B2 := (hb1.trans (hb2.mono hb1.size)).alloc (Nat.le_trans hb1.size hb2.size) (.cells #[.int .u8 x, .int .u8 y] 45)
    clear hb1 hb2
    go_wp2_with fail
    refine (to_int (y := p) (decode_any x y _ d3 d4 d5 d6) X.out.2.2.2).mono ?_
    rintro e w' ⟨rfl, rfl⟩
    go_wp2_with fail
    refine (to_int (y := z) (digit_any v _) Z.out.1).mono ?_
    rintro e w' ⟨rfl, rfl⟩
    go_wp2_with fail
    refine (to_int (y := v) (value_any z _ (by omega) (by omega)) Z.out.2).mono ?_
    rintro e w' ⟨rfl, rfl⟩
    go_wp2_with fail
    refine (to_int (y := z) (digit_any v _) Z.out.1).mono ?_
    rintro e w' ⟨rfl, rfl⟩
    go_wp2_with fail
    refine (to_int (y := z) (digit_any v _) Z.out.1).mono ?_
    rintro e w' ⟨rfl, rfl⟩
    go_wp2_with fail
    go_ret
    exact ⟨rfl, B2⟩
  · have d8 : 64 ≤ x := d7 (by omega)
    clear d7
    go_enter Try.func11, Try.ntmps11
    go_wp2_with fail
    refine (alive2_any _).mono ?_
    rintro e w1 ⟨rfl, hb1⟩
    go_wp2_with fail
    refine ((encode_any p (1 + k) _ (by omega) (by omega)).mono (R' := fun e w' => e = .returned (.tuple #[.agg #[.int .u8 x, .int .u8 y], .int .i64 0]) ∧ Below w1.heap.size w1 w') fun _ _ ⟨he, hw⟩ => ⟨he.trans (ret_enc ⟨X.out.1.symm, X.out.2.1.symm, X.out.2.2.1.symm⟩), hw⟩).mono ?_
    rintro e w2 ⟨rfl, hb2⟩
    have B2 := (hb1.trans (hb2.mono hb1.size)).alloc (Nat.le_trans hb1.size hb2.size) (.cells #[.int .u8 x, .int .u8 y] 45)
    clear hb1 hb2
    go_wp2_with fail
    refine (to_int (y := p) (decode_any x y _ d3 d4 d5 d6) X.out.2.2.2).mono ?_
    rintro e w' ⟨rfl, rfl⟩
    go_wp2_with fail
    refine (to_int (y := z) (digit_any v _) Z.out.1).mono ?_
    rintro e w' ⟨rfl, rfl⟩
    go_wp2_with fail
    refine (to_int (y := v) (value_any z _ (by omega) (by omega)) Z.out.2).mono ?_
    rintro e w' ⟨rfl, rfl⟩
    go_wp2_with fail
    refine (to_int (y := z) (digit_any v _) Z.out.1).mono ?_
    rintro e w' ⟨rfl, rfl⟩
    go_wp2_with fail
    refine (to_int (y := z) (digit_any v _) Z.out.1).mono ?_
    rintro e w' ⟨rfl, rfl⟩
    go_wp2_with fail
    go_ret
    exact ⟨rfl, B2⟩

end Go.Proofs.Ytpmcpllcfmgpgaa
