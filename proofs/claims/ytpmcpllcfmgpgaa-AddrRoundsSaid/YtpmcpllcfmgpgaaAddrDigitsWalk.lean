/-
  The walk of AddrDigits: it returns true whatever comes, and leaves all that was in memory as it was.
-/
import Derived.Test.YtpmcpllcfmgpgaaAddrH
namespace Go.Proofs.Ytpmcpllcfmgpgaa
open Go.RowKit
set_option linter.unusedVariables false
theorem dig_inj (v w : Int) : (dig (v % 64) == dig (w % 64)) = (v % 64 == w % 64) := by
  rw [Bool.eq_iff_iff]
  simp only [beq_iff_eq]
  constructor
  · intro h
    unfold dig at h
    split at h <;> split at h <;> omega
  · intro h; rw [h]

theorem split_is (r c p n x y : Int) (w : World) (hn : Hid (cells r c = n)) (p0 : 0 ≤ p) (p1 : p < n) (hx : p / c = x) (hy : p % c = y) :
    Calls Try.prog 44 #[.agg #[.int .i64 r, .int .i64 c], .int .i64 p] w fun e w' => e = .returned (.tuple #[.int .i64 x, .int .i64 y, .bool true]) ∧ Below w.heap.size w w' := by
  subst hx; subst hy; exact split_yes r c p n w hn p0 p1
theorem at_is (r c x y n p : Int) (w : World) (hn : Hid (cells r c = n)) (h0 : n ≠ 0) (x0 : 0 ≤ x) (x1 : x < r) (y0 : 0 ≤ y) (y1 : y < c) (hp : x * c + y = p) :
    Calls Try.prog 42 #[.agg #[.int .i64 r, .int .i64 c], .int .i64 x, .int .i64 y] w fun e w' => e = .returned (.tuple #[.int .i64 p, .bool true]) ∧ Below w.heap.size w w' := by
  subst hp; exact at_yes r c x y n w hn h0 x0 x1 y0 y1
theorem at_zero (r c n : Int) (w : World) (hn : Hid (cells r c = n)) :
    Calls Try.prog 42 #[.agg #[.int .i64 r, .int .i64 c], .int .i64 0, .int .i64 0] w fun e w' => ∃ q b, e = .returned (.tuple #[.int .i64 q, .bool b]) ∧ Below w.heap.size w w' := by
  by_cases h : n = 0
  · subst h
    exact (at_no_cells r c 0 0 w hn).mono fun e w' ⟨he, hb⟩ => ⟨_, _, he, hb⟩
  · obtain ⟨_, h2, _, h4, _⟩ := cells_pos r c n hn.out h
    exact (at_yes r c 0 0 n w hn h (by omega) (by omega) (by omega) (by omega)).mono fun e w' ⟨he, hb⟩ => ⟨_, _, he, hb⟩
theorem split_bd (r c p n : Int) (hn : cells r c = n) (p0 : 0 ≤ p) (p1 : p < n) : ∃ x y, p / c = x ∧ p % c = y ∧ n ≠ 0 ∧ 0 ≤ x ∧ x < r ∧ 0 ≤ y ∧ y < c ∧ x * c + y = p := by
  obtain ⟨h1, h2, h3, h4, h5⟩ := cells_pos r c n hn (by omega)
  refine ⟨_, _, rfl, rfl, by omega, Int.ediv_nonneg p0 (by omega), ?_, Int.emod_nonneg _ (by omega), Int.emod_lt_of_pos _ (by omega), ?_⟩
  · exact Int.ediv_lt_of_lt_mul (by omega) (by rw [← h1]; exact p1)
  · have := Int.emod_add_mul_ediv p c
    rw [Int.mul_comm]; omega

set_option maxHeartbeats 1000000 in
theorem addrDigits_walk (v : Int) (hv : (Lit.int .i64 v).wf = true) (u : Int) (hu : (Lit.int .i64 u).wf = true) (r c : Int) (hr : (Lit.int .i64 r).wf = true) (hc : (Lit.int .i64 c).wf = true) (p : Int) (hp : (Lit.int .i64 p).wf = true) (w : World) :
    Calls Try.prog 13 #[.int .i64 v, .int .i64 u, .agg #[.int .i64 r, .int .i64 c], .int .i64 p] w fun e w' => e = .returned (.bool true) ∧ Below w.heap.size w w' := by
  have e1 := and63 v
  have e2 := and63 u
  clear hv hu hr hc hp
  obtain ⟨n, hn⟩ : ∃ n, cells r c = n := ⟨_, rfl⟩
  have HN := Lib.hid hn
  clear hn
  have hd : (dig (v % 64) == dig (u % 64)) = (v % 64 == u % 64) := dig_inj v u
  obtain ⟨t, ht⟩ : ∃ t, t = (v % 64 == u % 64) := ⟨_, rfl⟩
  rw [← ht] at hd
  have hd2 := ht.symm
  clear ht
  by_cases hin : 0 ≤ p ∧ p < n
  · obtain ⟨p0, p1⟩ := hin
    go_enter Try.func13, Try.ntmps13
    go_wp2_with fail
    refine (alive2_any _).mono ?_
    rintro e w1 ⟨rfl, hb1⟩
    have B1 := below_box hb1
    obtain ⟨c0, c1⟩ := box_at hb1
    clear hb1
    obtain ⟨x, y, hx, hy, n0, x0, x1, y0, y1, hxy⟩ := split_bd r c p n HN.out p0 p1
    have HX := Lib.hid hx
    have HY := Lib.hid hy
    have HXY := Lib.hid hxy
    clear hx hy hxy
    go_wp2_with fail
    refine (digit_any _ _).mono ?_
    rintro e w' ⟨rfl, rfl⟩
    go_wp2_with fail
    refine (digit_any _ _).mono ?_
    rintro e w' ⟨rfl, rfl⟩
    go_wp2_with fail
    refine (split_is r c p n x y _ HN p0 p1 HX.out HY.out).mono ?_
    rintro e w2 ⟨rfl, hb2⟩
    have c0' := cell_later hb2 c0
    have c1' := cell_later hb2 c1
    have B2 := B1.trans (hb2.mono B1.size)
    clear c0 c1 hb2 B1
    go_wp2_with fail
    refine (at_is r c x y n p _ HN n0 x0 x1 y0 y1 HXY.out).mono ?_
    rintro e w3 ⟨rfl, hb3⟩
    have c0 := cell_later hb3 c0'
    have c1 := cell_later hb3 c1'
    have B3 := B2.trans (hb3.mono B2.size)
    clear c0' c1' hb3 B2
    go_wp2_with fail
    go_ret
    exact ⟨rfl, B3⟩
  · have hp : p < 0 ∨ n ≤ p := by omega
    clear hin
    go_enter Try.func13, Try.ntmps13
    go_wp2_with fail
    refine (alive2_any _).mono ?_
    rintro e w1 ⟨rfl, hb1⟩
    have B1 := below_box hb1
    obtain ⟨c0, c1⟩ := box_at hb1
    clear hb1
    go_wp2_with fail
    refine (digit_any _ _).mono ?_
    rintro e w' ⟨rfl, rfl⟩
    go_wp2_with fail
    refine (digit_any _ _).mono ?_
    rintro e w' ⟨rfl, rfl⟩
    go_wp2_with fail
    refine (split_no r c p n _ HN hp).mono ?_
    rintro e w2 ⟨rfl, hb2⟩
    have c0' := cell_later hb2 c0
    have c1' := cell_later hb2 c1
    have B2 := B1.trans (hb2.mono B1.size)
    clear c0 c1 hb2 B1
    go_wp2_with fail
    refine (at_zero r c n _ HN).mono ?_
    rintro e w3 ⟨q, b, rfl, hb3⟩
    have B3 := B2.trans (hb3.mono B2.size)
    clear c0' c1' hb3 B2
    go_wp2_with fail
    go_ret
    exact ⟨rfl, B3⟩

end Go.Proofs.Ytpmcpllcfmgpgaa
