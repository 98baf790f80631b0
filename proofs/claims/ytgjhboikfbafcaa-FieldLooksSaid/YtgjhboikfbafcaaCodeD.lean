/-
  Contracts of the reference's value, list, Sign, Byte and Upper of layer 1.
-/
import Derived.Test.YtgjhboikfbafcaaCodeC
namespace Go.Proofs.Ytgjhboikfbafcaa.Code
open Go.RowKit Go.Maps
set_option linter.unusedVariables false

/-- The list of page 37, two digits each, as the reference has it. -/
def LS : ByteArray := ⟨#[48, 48, 48, 49, 48, 50, 48, 51, 57, 67, 48, 57, 56, 54, 55, 70, 57, 55, 56, 68, 56, 69, 48, 66, 48, 67, 48, 68, 48, 69, 48, 70, 49, 48, 49, 49, 49, 50, 49, 51, 57, 68, 56, 53, 48, 56, 56, 55, 49, 56, 49, 57, 57, 50, 56, 70, 49, 67, 49, 68, 49, 69, 49, 70, 56, 48, 56, 49, 56, 50, 56, 51, 56, 52, 48, 65, 49, 55, 49, 66, 56, 56, 56, 57, 56, 65, 56, 66, 56, 67, 48, 53, 48, 54, 48, 55, 57, 48, 57, 49, 49, 54, 57, 51, 57, 52, 57, 53, 57, 54, 48, 52, 57, 56, 57, 57, 57, 65, 57, 66, 49, 52, 49, 53, 57, 69, 49, 65, 50, 48, 65, 48, 69, 50, 69, 52, 69, 48, 69, 49, 69, 51, 69, 53, 69, 55, 70, 49, 65, 50, 50, 69, 51, 67, 50, 56, 50, 66, 55, 67, 50, 54, 69, 57, 69, 65, 69, 66, 69, 56, 69, 68, 69, 69, 69, 70, 69, 67, 68, 70, 50, 49, 50, 52, 50, 65, 50, 57, 51, 66, 65, 67, 50, 68, 50, 70, 67, 50, 67, 52, 67, 48, 67, 49, 67, 51, 67, 53, 67, 55, 68, 49, 65, 54, 50, 67, 50, 53, 53, 70, 51, 69, 51, 70, 70, 56, 67, 57, 67, 65, 67, 66, 67, 56, 67, 68, 67, 69, 67, 70, 67, 67, 54, 48, 51, 65, 50, 51, 52, 48, 50, 55, 51, 68, 50, 50, 68, 56, 54, 49, 54, 50, 54, 51, 54, 52, 54, 53, 54, 54, 54, 55, 54, 56, 54, 57, 65, 66, 66, 66, 70, 48, 70, 68, 70, 69, 66, 49, 66, 48, 54, 65, 54, 66, 54, 67, 54, 68, 54, 69, 54, 70, 55, 48, 55, 49, 55, 50, 65, 65, 66, 65, 69, 54, 66, 56, 67, 54, 65, 52, 66, 53, 55, 69, 55, 51, 55, 52, 55, 53, 55, 54, 55, 55, 55, 56, 55, 57, 55, 65, 65, 49, 66, 70, 68, 48, 68, 68, 68, 69, 65, 69, 53, 69, 65, 51, 65, 53, 66, 55, 65, 57, 65, 55, 66, 54, 66, 67, 66, 68, 66, 69, 53, 66, 53, 68, 65, 70, 65, 56, 66, 52, 68, 55, 55, 66, 52, 49, 52, 50, 52, 51, 52, 52, 52, 53, 52, 54, 52, 55, 52, 56, 52, 57, 65, 68, 70, 52, 70, 54, 70, 50, 70, 51, 70, 53, 55, 68, 52, 65, 52, 66, 52, 67, 52, 68, 52, 69, 52, 70, 53, 48, 53, 49, 53, 50, 66, 57, 70, 66, 70, 67, 70, 57, 70, 65, 70, 70, 53, 67, 70, 55, 53, 51, 53, 52, 53, 53, 53, 54, 53, 55, 53, 56, 53, 57, 53, 65, 66, 50, 68, 52, 68, 54, 68, 50, 68, 51, 68, 53, 51, 48, 51, 49, 51, 50, 51, 51, 51, 52, 51, 53, 51, 54, 51, 55, 51, 56, 51, 57, 66, 51, 68, 66, 68, 67, 68, 57, 68, 65, 57, 70]⟩
def hx (i : Nat) : Int := ((LS.data[i]?.getD 0).toNat : Int)
def val (c : Int) : Int := if 65 ≤ c then c - 55 else c - 48
theorem LS_size : LS.size = 512 := by kernel_rfl
theorem hx_bd (i : Nat) : 0 ≤ hx i ∧ hx i ≤ 255 := by
  unfold hx
  have := (LS.data[i]?.getD 0).toNat_lt
  omega
theorem list_all : ((List.range 256).all fun b => decide (16 * val (hx (2 * b)) + val (hx (2 * b + 1)) = p37[b]?.getD 0) && decide (0 ≤ val (hx (2 * b)) ∧ val (hx (2 * b)) ≤ 15 ∧ 0 ≤ val (hx (2 * b + 1)) ∧ val (hx (2 * b + 1)) ≤ 15)) = true := by kernel_rfl
theorem list_at (b : Nat) (h : b < 256) : 16 * val (hx (2 * b)) + val (hx (2 * b + 1)) = p37[b]?.getD 0 ∧ 0 ≤ val (hx (2 * b)) ∧ val (hx (2 * b)) ≤ 15 ∧ 0 ≤ val (hx (2 * b + 1)) ∧ val (hx (2 * b + 1)) ≤ 15 := by
  have := List.all_eq_true.1 list_all b (by simp; omega)
  simpa using this
theorem index_LS (i : Nat) (h : i < 512) (w : World) : (Instr.index 9 (.string LS) (.int .i64 (i : Int))).run Try.prog w = .ok (.int .u8 (hx i)) w := by
  rw [run_index_string w _ _ _ _ Try.underlying9, dif_pos (by rw [LS_size]; omega)]
  have h2 : i < LS.data.size := by have := LS_size; simp only [ByteArray.size] at this; omega
  unfold hx
  rw [Array.getElem?_eq_getElem h2]
  rfl

theorem value_any (c : Int) (w : World) (h0 : 0 ≤ c) (h1 : c ≤ 255) :
    Calls Try.prog 119 #[.int .u8 c] w fun e w' => e = .returned (.int .i64 (val c)) ∧ w' = w := by
  by_cases h : 65 ≤ c
  · go_enter Try.func119, Try.ntmps119
    go_wp2
    go_ret
    exact ⟨ret_int (by unfold val; rw [if_pos h]), rfl⟩
  · go_enter Try.func119, Try.ntmps119
    go_wp2
    go_ret
    exact ⟨ret_int (by unfold val; rw [if_neg (by omega)]), rfl⟩

set_option maxRecDepth 100000 in
theorem list_any (w : World) : Calls Try.prog 118 #[] w fun e w' => e = .returned (.string LS) ∧ w = w' := by
  go_enter Try.func118, Try.ntmps118
  go_wp2
  go_ret
  exact ⟨by kernel_rfl, rfl⟩

/-- Behind the loop: the sign out of the list. -/
def A500 : List Int := [74, 79, 90, 95, 176, 186, 187]
def S500 : List Int := [91, 33, 93, 94, 162, 172, 124]
def A1047 : List Int := [95, 173, 176, 186, 187, 189]
def S1047 : List Int := [94, 91, 172, 221, 168, 93]
theorem fit500 : ((List.range 7).all fun k => decide (p500[(A500[k]?.getD 0).toNat]?.getD 0 = S500[k]?.getD 0)) = true ∧ ((List.range 256).all fun b => (List.range 7).any (fun k => decide (A500[k]?.getD 0 = (b : Int))) || decide (p500[b]?.getD 0 = p37[b]?.getD 0)) = true := ⟨by kernel_rfl, by kernel_rfl⟩
theorem fit1047 : ((List.range 6).all fun k => decide (p1047[(A1047[k]?.getD 0).toNat]?.getD 0 = S1047[k]?.getD 0)) = true ∧ ((List.range 256).all fun b => (List.range 6).any (fun k => decide (A1047[k]?.getD 0 = (b : Int))) || decide (p1047[b]?.getD 0 = p37[b]?.getD 0)) = true := ⟨by kernel_rfl, by kernel_rfl⟩
theorem fit_hit {T A S : List Int} {n k : Nat} (h : ((List.range n).all fun k => decide (T[(A[k]?.getD 0).toNat]?.getD 0 = S[k]?.getD 0)) = true) (hk : k < n) : T[(A[k]?.getD 0).toNat]?.getD 0 = S[k]?.getD 0 := by
  have := List.all_eq_true.1 h k (by simp; omega)
  simpa using this
theorem fit_miss {T A : List Int} {n : Nat} {b : Int} (h : ((List.range 256).all fun b => (List.range n).any (fun k => decide (A[k]?.getD 0 = (b : Int))) || decide (T[b]?.getD 0 = p37[b]?.getD 0)) = true) (b0 : 0 ≤ b) (b1 : b ≤ 255) (hm : ∀ k, k < n → A[k]?.getD 0 ≠ b) : T[b.toNat]?.getD 0 = p37[b.toNat]?.getD 0 := by
  have := List.all_eq_true.1 h b.toNat (by simp; omega)
  simp only [Bool.or_eq_true, List.any_eq_true, decide_eq_true_eq, List.mem_range] at this
  rcases this with ⟨k, hk, e⟩ | e
  · exact absurd (by rw [e]; omega) (hm k hk)
  · exact e
theorem sgn_500 (b : Int) : sgn 500 b = p500[b.toNat]?.getD 0 := by unfold sgn tabl; rw [if_pos rfl]
theorem sgn_1047 (b : Int) : sgn 1047 b = p1047[b.toNat]?.getD 0 := by unfold sgn tabl; rw [if_neg (by decide), if_pos rfl]
theorem sgn_37 (page b : Int) (h1 : page ≠ 500) (h2 : page ≠ 1047) : sgn page b = p37[b.toNat]?.getD 0 := by unfold sgn tabl; rw [if_neg h1, if_neg h2]

set_option maxRecDepth 100000 in
set_option maxHeartbeats 400000 in
theorem rsign_37 (page b : Int) (w : World) (b0 : 0 ≤ b) (b1 : b ≤ 255) (h1 : page ≠ 500) (h2 : page ≠ 1047) :
    Calls Try.prog 96 #[.int .i64 page, .int .u8 b] w fun e w' => e = .returned (.int .i32 (sgn page b)) ∧ Below w.heap.size w w' := by
  have e1 : (page == 500) = false := by simpa using h1
  have e2 : (page == 1047) = false := by simpa using h2
  have hS := Lib.hid (sgn_37 page b h1 h2)
  clear h1 h2
  obtain ⟨n, rfl⟩ : ∃ n : Nat, b = n := ⟨b.toNat, by omega⟩
  have hn : n < 256 := by omega
  obtain ⟨hv, v1, v2, v3, v4⟩ := list_at n hn
  have HV := Lib.hid hv
  have hi1 := fun w => index_LS (2 * n) (by omega) w
  have hi2 := fun w => index_LS (2 * n + 1) (by omega) w
  rw [show ((2 * n : Nat) : Int) = 2 * (n : Int) by omega] at hi1
  rw [show ((2 * n + 1 : Nat) : Int) = 2 * (n : Int) + 1 by omega] at hi2
  obtain ⟨c1, c2⟩ := hx_bd (2 * n)
  obtain ⟨c3, c4⟩ := hx_bd (2 * n + 1)
  obtain ⟨x, hx1⟩ : ∃ x, x = hx (2 * n) := ⟨_, rfl⟩
  obtain ⟨y, hy1⟩ : ∃ y, y = hx (2 * n + 1) := ⟨_, rfl⟩
  rw [← hx1] at hi1 c1 c2 v1 v2
  rw [← hy1] at hi2 c3 c4 v3 v4
  have HX : Hid (16 * val x + val y = p37[n]?.getD 0) := by rw [hx1, hy1]; exact HV.out
  clear hv HV hx1 hy1
  have q1 : IntKind.i64.wrap (2 * (n : Int)) = 2 * (n : Int) := IntWalk.i64_in _ (by omega)
  have q2 : IntKind.i64.wrap (2 * (n : Int) + 1) = 2 * (n : Int) + 1 := IntWalk.i64_in _ (by omega)
  have q3 : IntKind.i64.wrap (16 * val x) = 16 * val x := IntWalk.i64_in _ (by omega)
  have q4 : IntKind.i64.wrap (16 * val x + val y) = 16 * val x + val y := IntWalk.i64_in _ (by omega)
  have q5 : IntKind.i32.wrap (16 * val x + val y) = 16 * val x + val y := IntWalk.i32_in _ (by omega)
  have Q := Lib.hid (And.intro q1 (And.intro q2 (And.intro q3 (And.intro q4 q5))))
  clear q1 q2 q3 q4 q5
  go_enter Try.func96, Try.ntmps96
  go_wp2
  go_loop [7] (fun i => i = .int .i64 0) (fun _ => 0)
  case atStart => rfl
  case round =>
    obtain rfl := hrel
    go_wp2_with fail
    refine (list_any _).mono ?_
    rintro e w' ⟨rfl, rfl⟩
    go_wp2_with fail
    obtain ⟨q1, q2, q3, q4, q5⟩ := Q.out
    go_quiet ((go_at_call 119; exact Calls.quiet_of_same (value_any _ _ (by omega) (by omega))))
    go_wp2_with fail
    go_ret
    exact ⟨ret_int (by rw [HX.out, hS.out]; rfl), below_drewN (((Below.refl _ w).alloc (Nat.le_refl _) _).alloc (by simp) _) _⟩

end Go.Proofs.Ytgjhboikfbafcaa.Code
