/-
  The walk of AddrBytes: it returns true whatever comes, and leaves all that was in memory as it was.
-/
import Derived.Test.YtpmcpllcfmgpgaaAddrH
namespace Go.Proofs.Ytpmcpllcfmgpgaa
open Go.RowKit
set_option linter.unusedVariables false

theorem i64_bd {n : Int} (h : (Lit.int .i64 n).wf = true) : -9223372036854775808 ≤ n ∧ n ≤ 9223372036854775807 := by
  simp [Lit.wf, IntKind.min, IntKind.max, IntKind.bits, IntKind.signed] at h; omega
theorem u8_bd {n : Int} (h : (Lit.int .u8 n).wf = true) : 0 ≤ n ∧ n ≤ 255 := by
  simp [Lit.wf, IntKind.min, IntKind.max, IntKind.bits, IntKind.signed] at h; omega

set_option maxHeartbeats 1000000 in
theorem addrBytes_walk (v : Int) (hv : (Lit.int .i64 v).wf = true) (p : Int) (hp : (Lit.int .i64 p).wf = true) (n : Int) (hn : (Lit.int .i64 n).wf = true) (a : Int) (ha : (Lit.int .u8 a).wf = true) (b : Int) (hb : (Lit.int .u8 b).wf = true) (w : World) :
    Calls Try.prog 9 #[.int .i64 v, .int .i64 p, .int .i64 n, .int .u8 a, .int .u8 b] w fun e w' => e = .returned (.bool true) ∧ Below w.heap.size w w' := by
  obtain ⟨v0, v1⟩ := i64_bd hv
  obtain ⟨p0, p1⟩ := i64_bd hp
  obtain ⟨a0, a1⟩ := u8_bd ha
  obtain ⟨b0, b1⟩ := u8_bd hb
  clear hv hp hn ha hb
  obtain ⟨x, hx⟩ : ∃ x, x = encA p n := ⟨_, rfl⟩
  obtain ⟨y, hy⟩ : ∃ y, y = encB p n := ⟨_, rfl⟩
  obtain ⟨z, hz⟩ : ∃ z, z = encE p n := ⟨_, rfl⟩
  have X : Hid (encA p n = x ∧ encB p n = y ∧ encE p n = z) := ⟨hx.symm, hy.symm, hz.symm⟩
  clear hx hy hz
  obtain ⟨l, hl⟩ : ∃ l, l = v % 64 := ⟨_, rfl⟩
  have l0 : 0 ≤ l := by omega
  have l1 : l ≤ 63 := by omega
  obtain ⟨d, hd⟩ : ∃ d, d = dig l := ⟨_, rfl⟩
  have D : Hid (v % 64 = l ∧ dig (v % 64) = d ∧ dig l = d) := ⟨hl.symm, by rw [hd, hl], hd.symm⟩
  clear hl hd
  obtain ⟨q, hq⟩ : ∃ q, q = decP a b := ⟨_, rfl⟩
  have Q := Lib.hid hq.symm
  clear hq
  have eqp := eq_pair
  go_enter Try.func9, Try.ntmps9
  go_wp2_with fail
  refine (alive2_any _).mono ?_
  rintro e w1 ⟨rfl, hb1⟩
  go_wp2_with fail
  refine ((encode_any p n _ (by omega) (by omega)).mono (R' := fun e w' => e = .returned (.tuple #[.agg #[.int .u8 x, .int .u8 y], .int .i64 z]) ∧ Below w1.heap.size w1 w') fun _ _ ⟨he, hw⟩ => ⟨he.trans (ret_enc ⟨X.out.1.symm, X.out.2.1.symm, X.out.2.2.symm⟩), hw⟩).mono ?_
  rintro e w2 ⟨rfl, hb2⟩
  have B2 := (hb1.trans (hb2.mono hb1.size)).alloc (Nat.le_trans hb1.size hb2.size) (.cells #[.int .u8 x, .int .u8 y] 45)
  clear hb1 hb2
  go_wp2_with fail
  refine ((rencode_any p n _ (by omega) (by omega)).mono (R' := fun e w' => e = .returned (.tuple #[.agg #[.int .u8 x, .int .u8 y], .int .i64 z]) ∧ Below (w2.alloc (.cells #[.int .u8 x, .int .u8 y] 45)).heap.size (w2.alloc (.cells #[.int .u8 x, .int .u8 y] 45)) w') fun _ _ ⟨he, hw⟩ => ⟨he.trans (ret_enc ⟨X.out.1.symm, X.out.2.1.symm, X.out.2.2.symm⟩), hw⟩).mono ?_
  rintro e w3 ⟨rfl, hb3⟩
  obtain ⟨c0, c1⟩ := box_at hb3
  have f0 := cell_alloc_l (.cells #[.int .u8 x, .int .u8 y] 45) c0
  have f1 := cell_alloc_l (.cells #[.int .u8 x, .int .u8 y] 45) c1
  have B3 := (B2.trans (hb3.mono B2.size)).alloc (Nat.le_trans B2.size hb3.size) (.cells #[.int .u8 x, .int .u8 y] 45)
  clear hb3 B2 c0 c1
  go_wp2_with fail
  refine (to_int (y := d) (digit_any v _) D.out.2.1).mono ?_
  rintro e w' ⟨rfl, rfl⟩
  go_wp2_with fail
  refine (to_int (y := l) (low_any v _ v0 v1) D.out.1).mono ?_
  rintro e w' ⟨rfl, rfl⟩
  go_wp2_with fail
  refine (to_int (y := d) (rdigit_any l _ l0 l1) D.out.2.2).mono ?_
  rintro e w' ⟨rfl, rfl⟩
  go_wp2_with fail
  refine (value_any a _ a0 a1).mono ?_
  rintro e w' ⟨rfl, rfl⟩
  go_wp2_with fail
  refine (to_int (y := q) (decode_any a b _ a0 a1 b0 b1) Q.out).mono ?_
  rintro e w' ⟨rfl, rfl⟩
  go_wp2_with fail
  refine (to_int (y := q) (rdecode_any a b _ a0 a1 b0 b1) Q.out).mono ?_
  rintro e w' ⟨rfl, rfl⟩
  go_wp2_with fail
  go_ret
  exact ⟨rfl, B3⟩

end Go.Proofs.Ytpmcpllcfmgpgaa
