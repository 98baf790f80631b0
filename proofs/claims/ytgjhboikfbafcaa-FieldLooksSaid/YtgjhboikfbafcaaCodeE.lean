/-
  Contracts of the reference's Sign, Byte and Upper of layer 1, at all pages.
-/
import Derived.Test.YtgjhboikfbafcaaCodeD
namespace Go.Proofs.Ytgjhboikfbafcaa.Code
open Go.RowKit Go.Maps
set_option linter.unusedVariables false

theorem cells_A500 (k : Nat) (hlt : k < 7) : ∀ h, ([.int .u8 74, .int .u8 79, .int .u8 90, .int .u8 95, .int .u8 176, .int .u8 186, .int .u8 187] : List Value)[k]'h = .int .u8 (A500[k]?.getD 0) := by
  intro h
  have : k = 0 ∨ k = 1 ∨ k = 2 ∨ k = 3 ∨ k = 4 ∨ k = 5 ∨ k = 6 := by omega
  rcases this with rfl | rfl | rfl | rfl | rfl | rfl | rfl <;> rfl
theorem cells_S500 (k : Nat) (hlt : k < 7) : ∀ h, ([.int .i32 91, .int .i32 33, .int .i32 93, .int .i32 94, .int .i32 162, .int .i32 172, .int .i32 124] : List Value)[k]'h = .int .i32 (S500[k]?.getD 0) := by
  intro h
  have : k = 0 ∨ k = 1 ∨ k = 2 ∨ k = 3 ∨ k = 4 ∨ k = 5 ∨ k = 6 := by omega
  rcases this with rfl | rfl | rfl | rfl | rfl | rfl | rfl <;> rfl
set_option maxRecDepth 100000 in
set_option maxHeartbeats 1000000 in
theorem rsign_500 (b : Int) (w : World) (b0 : 0 ≤ b) (b1 : b ≤ 255) :
    Calls Try.prog 96 #[.int .i64 500, .int .u8 b] w fun e w' => e = .returned (.int .i32 (sgn 500 b)) ∧ Below w.heap.size w w' := by
  have hS := Lib.hid (sgn_500 b)
  obtain ⟨n, rfl⟩ : ∃ n : Nat, b = n := ⟨b.toNat, by omega⟩
  have hn : n < 256 := by omega
  obtain ⟨hv, v1, v2, v3, v4⟩ := list_at n hn
  have HV := Lib.hid hv
  have hi1 := fun w => index_LS (2 * n) (by omega) w
  have hi2 := fun w => index_LS (2 * n + 1) (by omega) w
  rw [show ((2 * n : Nat) : Int) = 2 * (n : Int) by omega] at hi1
  rw [show ((2 * n + 1 : Nat) : Int) = 2 * (n : Int) + 1 by omega] at hi2
  obtain ⟨c1, c2⟩ := hx_bd (2 * n)
  obtain ⟨c3, c4⟩ := hx_bd (2 * n + 1)
  obtain ⟨x, hx1⟩ : ∃ x, x = hx (2 * n) := ⟨_, rfl⟩
  obtain ⟨y, hy1⟩ : ∃ y, y = hx (2 * n + 1) := ⟨_, rfl⟩
  rw [← hx1] at hi1 c1 c2 v1 v2
  rw [← hy1] at hi2 c3 c4 v3 v4
  have HX : Hid (16 * val x + val y = p37[n]?.getD 0) := by rw [hx1, hy1]; exact HV.out
  clear hv HV hx1 hy1
  have q1 : IntKind.i64.wrap (2 * (n : Int)) = 2 * (n : Int) := IntWalk.i64_in _ (by omega)
  have q2 : IntKind.i64.wrap (2 * (n : Int) + 1) = 2 * (n : Int) + 1 := IntWalk.i64_in _ (by omega)
  have q3 : IntKind.i64.wrap (16 * val x) = 16 * val x := IntWalk.i64_in _ (by omega)
  have q4 : IntKind.i64.wrap (16 * val x + val y) = 16 * val x + val y := IntWalk.i64_in _ (by omega)
  have q5 : IntKind.i32.wrap (16 * val x + val y) = 16 * val x + val y := IntWalk.i32_in _ (by omega)
  have Q := Lib.hid (And.intro q1 (And.intro q2 (And.intro q3 (And.intro q4 q5))))
  clear q1 q2 q3 q4 q5
  go_enter Try.func96, Try.ntmps96
  go_wp2
  go_loop [7] (fun i => ∃ k : Nat, k ≤ 7 ∧ i = .int .i64 k ∧ Hid (∀ j, j < k → A500[j]?.getD 0 ≠ (n : Int))) (fun i => 7 - (intOf i).toNat)
  case atStart => exact ⟨0, by omega, rfl, fun _ h => absurd h (by omega)⟩
  case round =>
    obtain ⟨k, hk, rfl, hm⟩ := hrel
    by_cases hlt : k < 7
    · have hk1 : (k : Int) < 7 := by omega
      have ca := cells_A500 k hlt
      have cs := cells_S500 k hlt
      have hh := Lib.hid (fit_hit fit500.1 hlt)
      obtain ⟨z, hz⟩ : ∃ z, z = A500[k]?.getD 0 := ⟨_, rfl⟩
      obtain ⟨t, ht⟩ : ∃ t, t = S500[k]?.getD 0 := ⟨_, rfl⟩
      rw [← hz] at ca
      rw [← ht] at cs
      have HZ := Lib.hid hz
      have HT := Lib.hid ht
      clear hz ht
      by_cases hzb : z = n
      · have hc : (z == (n : Int)) = true := by simpa using hzb
        have HZB := Lib.hid hzb
        clear hzb
        go_wp2_with fail
        go_ret
        refine ⟨ret_int ?_, ((((((Below.refl _ w).alloc (Nat.le_refl _) _).alloc (by simp) _).alloc (by simp; omega) _).alloc (by simp; omega) _))⟩
        rw [HT.out, ← hh.out, ← HZ.out, HZB.out, hS.out]
      · have hc : (z == (n : Int)) = false := by simpa using hzb
        have HZB := Lib.hid hzb
        clear hzb
        go_wp2_with fail
        go_round
        case rel =>
          refine ⟨k + 1, by omega, by go_num, fun j hj => ?_⟩
          by_cases e : j = k
          · subst e; rw [← HZ.out]; exact HZB.out
          · exact hm.out j (by omega)
        case measure => simp [intOf]; omega
    · obtain rfl : k = 7 := by omega
      have hmiss := Lib.hid (fit_miss fit500.2 b0 b1 hm.out)
      go_wp2_with fail
      refine (list_any _).mono ?_
      rintro e w' ⟨rfl, rfl⟩
      go_wp2_with fail
      obtain ⟨q1, q2, q3, q4, q5⟩ := Q.out
      go_quiet ((go_at_call 119; exact Calls.quiet_of_same (value_any _ _ (by omega) (by omega))))
      go_wp2_with fail
      go_ret
      exact ⟨ret_int (by rw [HX.out, hS.out, hmiss.out]; rfl), below_drewN ((((((Below.refl _ w).alloc (Nat.le_refl _) _).alloc (by simp) _).alloc (by simp; omega) _).alloc (by simp; omega) _)) _⟩

theorem cells_A1047 (k : Nat) (hlt : k < 6) : ∀ h, ([.int .u8 95, .int .u8 173, .int .u8 176, .int .u8 186, .int .u8 187, .int .u8 189] : List Value)[k]'h = .int .u8 (A1047[k]?.getD 0) := by
  intro h
  have : k = 0 ∨ k = 1 ∨ k = 2 ∨ k = 3 ∨ k = 4 ∨ k = 5 := by omega
  rcases this with rfl | rfl | rfl | rfl | rfl | rfl <;> rfl
theorem cells_S1047 (k : Nat) (hlt : k < 6) : ∀ h, ([.int .i32 94, .int .i32 91, .int .i32 172, .int .i32 221, .int .i32 168, .int .i32 93] : List Value)[k]'h = .int .i32 (S1047[k]?.getD 0) := by
  intro h
  have : k = 0 ∨ k = 1 ∨ k = 2 ∨ k = 3 ∨ k = 4 ∨ k = 5 := by omega
  rcases this with rfl | rfl | rfl | rfl | rfl | rfl <;> rfl
set_option maxRecDepth 100000 in
set_option maxHeartbeats 1000000 in
theorem rsign_1047 (b : Int) (w : World) (b0 : 0 ≤ b) (b1 : b ≤ 255) :
    Calls Try.prog 96 #[.int .i64 1047, .int .u8 b] w fun e w' => e = .returned (.int .i32 (sgn 1047 b)) ∧ Below w.heap.size w w' := by
  have hS := Lib.hid (sgn_1047 b)
  obtain ⟨n, rfl⟩ : ∃ n : Nat, b = n := ⟨b.toNat, by omega⟩
  have hn : n < 256 := by omega
  obtain ⟨hv, v1, v2, v3, v4⟩ := list_at n hn
  have HV := Lib.hid hv
  have hi1 := fun w => index_LS (2 * n) (by omega) w
  have hi2 := fun w => index_LS (2 * n + 1) (by omega) w
  rw [show ((2 * n : Nat) : Int) = 2 * (n : Int) by omega] at hi1
  rw [show ((2 * n + 1 : Nat) : Int) = 2 * (n : Int) + 1 by omega] at hi2
  obtain ⟨c1, c2⟩ := hx_bd (2 * n)
  obtain ⟨c3, c4⟩ := hx_bd (2 * n + 1)
  obtain ⟨x, hx1⟩ : ∃ x, x = hx (2 * n) := ⟨_, rfl⟩
  obtain ⟨y, hy1⟩ : ∃ y, y = hx (2 * n + 1) := ⟨_, rfl⟩
  rw [← hx1] at hi1 c1 c2 v1 v2
  rw [← hy1] at hi2 c3 c4 v3 v4
  have HX : Hid (16 * val x + val y = p37[n]?.getD 0) := by rw [hx1, hy1]; exact HV.out
  clear hv HV hx1 hy1
  have q1 : IntKind.i64.wrap (2 * (n : Int)) = 2 * (n : Int) := IntWalk.i64_in _ (by omega)
  have q2 : IntKind.i64.wrap (2 * (n : Int) + 1) = 2 * (n : Int) + 1 := IntWalk.i64_in _ (by omega)
  have q3 : IntKind.i64.wrap (16 * val x) = 16 * val x := IntWalk.i64_in _ (by omega)
  have q4 : IntKind.i64.wrap (16 * val x + val y) = 16 * val x + val y := IntWalk.i64_in _ (by omega)
  have q5 : IntKind.i32.wrap (16 * val x + val y) = 16 * val x + val y := IntWalk.i32_in _ (by omega)
  have Q := Lib.hid (And.intro q1 (And.intro q2 (And.intro q3 (And.intro q4 q5))))
  clear q1 q2 q3 q4 q5
  go_enter Try.func96, Try.ntmps96
  go_wp2
  go_loop [7] (fun i => ∃ k : Nat, k ≤ 6 ∧ i = .int .i64 k ∧ Hid (∀ j, j < k → A1047[j]?.getD 0 ≠ (n : Int))) (fun i => 6 - (intOf i).toNat)
  case atStart => exact ⟨0, by omega, rfl, fun _ h => absurd h (by omega)⟩
  case round =>
    obtain ⟨k, hk, rfl, hm⟩ := hrel
    by_cases hlt : k < 6
    · have hk1 : (k : Int) < 6 := by omega
      have ca := cells_A1047 k hlt
      have cs := cells_S1047 k hlt
      have hh := Lib.hid (fit_hit fit1047.1 hlt)
      obtain ⟨z, hz⟩ : ∃ z, z = A1047[k]?.getD 0 := ⟨_, rfl⟩
      obtain ⟨t, ht⟩ : ∃ t, t = S1047[k]?.getD 0 := ⟨_, rfl⟩
      rw [← hz] at ca
      rw [← ht] at cs
      have HZ := Lib.hid hz
      have HT := Lib.hid ht
      clear hz ht
      by_cases hzb : z = n
      · have hc : (z == (n : Int)) = true := by simpa using hzb
        have HZB := Lib.hid hzb
        clear hzb
        go_wp2_with fail
        go_ret
        refine ⟨ret_int ?_, ((((((Below.refl _ w).alloc (Nat.le_refl _) _).alloc (by simp) _).alloc (by simp; omega) _).alloc (by simp; omega) _))⟩
        rw [HT.out, ← hh.out, ← HZ.out, HZB.out, hS.out]
      · have hc : (z == (n : Int)) = false := by simpa using hzb
        have HZB := Lib.hid hzb
        clear hzb
        go_wp2_with fail
        go_round
        case rel =>
          refine ⟨k + 1, by omega, by go_num, fun j hj => ?_⟩
          by_cases e : j = k
          · subst e; rw [← HZ.out]; exact HZB.out
          · exact hm.out j (by omega)
        case measure => simp [intOf]; omega
    · obtain rfl : k = 6 := by omega
      have hmiss := Lib.hid (fit_miss fit1047.2 b0 b1 hm.out)
      go_wp2_with fail
      refine (list_any _).mono ?_
      rintro e w' ⟨rfl, rfl⟩
      go_wp2_with fail
      obtain ⟨q1, q2, q3, q4, q5⟩ := Q.out
      go_quiet ((go_at_call 119; exact Calls.quiet_of_same (value_any _ _ (by omega) (by omega))))
      go_wp2_with fail
      go_ret
      exact ⟨ret_int (by rw [HX.out, hS.out, hmiss.out]; rfl), below_drewN ((((((Below.refl _ w).alloc (Nat.le_refl _) _).alloc (by simp) _).alloc (by simp; omega) _).alloc (by simp; omega) _)) _⟩

theorem rsign_any (page b : Int) (w : World) (b0 : 0 ≤ b) (b1 : b ≤ 255) :
    Calls Try.prog 96 #[.int .i64 page, .int .u8 b] w fun e w' => e = .returned (.int .i32 (sgn page b)) ∧ Below w.heap.size w w' := by
  by_cases h1 : page = 500
  · subst h1; exact rsign_500 b w b0 b1
  · by_cases h2 : page = 1047
    · subst h2; exact rsign_1047 b w b0 b1
    · exact rsign_37 page b w b0 b1 h1 h2

theorem idx_le (L : List Int) (hd : L.Nodup) (r : Int) (k : Nat) (hk : k < L.length) (h : k ≤ L.idxOf r) : (L[k]?.getD 0 = r → L.idxOf r = k) ∧ (L[k]?.getD 0 ≠ r → k + 1 ≤ L.idxOf r) := by
  have hget : L[k]?.getD 0 = L[k] := by simp [hk]
  rw [hget]
  constructor
  · intro e; rw [← e]; exact List.Nodup.idxOf_getElem hd k hk
  · intro e
    have hne : L.idxOf r ≠ k := by
      intro h2
      apply e
      have h3 : L.idxOf r < L.length := by omega
      have h4 := List.getElem_idxOf h3
      simp only [h2] at h4
      exact h4
    omega

theorem cap_all : ((List.range 256).all fun b => (decide (97 ≤ (p37[b]?.getD 0) ∧ (p37[b]?.getD 0) ≤ 122 → p37.idxOf (p37[b]?.getD 0 - 32) = b + 64)) && (decide (97 ≤ (p500[b]?.getD 0) ∧ (p500[b]?.getD 0) ≤ 122 → p500.idxOf (p500[b]?.getD 0 - 32) = b + 64)) && (decide (97 ≤ (p1047[b]?.getD 0) ∧ (p1047[b]?.getD 0) ≤ 122 → p1047.idxOf (p1047[b]?.getD 0 - 32) = b + 64))) = true := by kernel_rfl
theorem cap_at (page b : Int) (b0 : 0 ≤ b) (b1 : b ≤ 255) (h : 97 ≤ sgn page b ∧ sgn page b ≤ 122) : byt page (sgn page b - 32) = b + 64 ∧ hasb page (sgn page b - 32) = true := by
  have hu := upr_fits page b b0 b1 h
  have := List.all_eq_true.1 cap_all b.toNat (by simp; omega)
  simp only [Bool.and_eq_true, decide_eq_true_eq] at this
  obtain ⟨⟨h1, h2⟩, h3⟩ := this
  have key : (tabl page).idxOf (sgn page b - 32) = b.toNat + 64 := by
    by_cases e1 : page = 500
    · subst e1
      rw [sgn_500] at h ⊢
      have := h2 h
      unfold tabl; rw [if_pos rfl]; exact this
    · by_cases e2 : page = 1047
      · subst e2
        rw [sgn_1047] at h ⊢
        have := h3 h
        unfold tabl; rw [if_neg (by decide), if_pos rfl]; exact this
      · rw [sgn_37 page b e1 e2] at h ⊢
        have := h1 h
        unfold tabl; rw [if_neg e1, if_neg e2]; exact this
  unfold byt hasb
  rw [key, if_pos (by omega)]
  exact ⟨by omega, decide_eq_true (by omega)⟩

end Go.Proofs.Ytgjhboikfbafcaa.Code
