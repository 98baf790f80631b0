/-
  The reference's comparison of bytes: its contract.
-/
import Derived.Test.YtgjhboikfbafcaaBase
namespace Go.Proofs.Ytgjhboikfbafcaa.Base
open Go.RowKit
set_option linter.unusedVariables false

theorem take_same (A B : List Int) (k : Nat) (hA : k < A.length) (hB : k < B.length) (h : A.take k = B.take k) : A.take (k + 1) = B.take (k + 1) ↔ A[k]?.getD 0 = B[k]?.getD 0 := by
  have e : A[k]?.getD 0 = A[k] ∧ B[k]?.getD 0 = B[k] := ⟨by simp [hA], by simp [hB]⟩
  rw [e.1, e.2, List.take_succ_eq_append_getElem hA, List.take_succ_eq_append_getElem hB, h]
  constructor
  · intro h'; simpa using (List.append_cancel_left h')
  · intro h'; rw [h']
theorem same_stop (A B : List Int) (k : Nat) (hne : ¬ A[k]?.getD 0 = B[k]?.getD 0) : decide (A = B) = false := by
  rw [decide_eq_false_iff_not]
  rintro rfl
  exact hne rfl
theorem same_all (A B : List Int) (n : Nat) (hA : A.length = n) (hB : B.length = n) (h : A.take n = B.take n) : decide (A = B) = true := by
  rw [decide_eq_true_iff]
  rw [List.take_of_length_le (by omega), List.take_of_length_le (by omega)] at h
  exact h

set_option maxHeartbeats 1000000 in
theorem same_any (u v : Value) (A B : List Int) (w : World) (hA : RowOf .u8 w u A) (hB : RowOf .u8 w v B) (hm : A.length ≤ maxLen) :
    Calls Try.prog 17 #[u, v] w fun e w' => e = .returned (.bool (decide (A = B))) ∧ ∃ n, w' = w.drewN n := by
  obtain ⟨a, cap, rfl, hra⟩ := hA
  obtain ⟨b, cap', rfl, hrb⟩ := hB
  unfold maxLen at hm
  by_cases hl : A.length = B.length
  · obtain ⟨n, hn⟩ : ∃ n, n = A.length := ⟨_, rfl⟩
    have hA' := Lib.hid hn.symm
    have hB' : Hid (B.length = n) := by rw [hn, hl]; exact rfl
    rw [← hl, ← hn]
    rw [← hl, ← hn] at hrb
    rw [← hn] at hm hra
    clear hl hn
    by_cases h0 : n = 0
    · have hd : decide (A = B) = true := same_all A B 0 (by rw [hA'.out, h0]) (by rw [hB'.out, h0]) (by simp)
      rw [hd]
      clear hd
      subst h0
      go_enter Try.func17, Try.ntmps17
      go_wp2
      go_loop [5] (fun i => i = .int .i64 0) (fun _ => 0)
      case atStart => rfl
      case round =>
        obtain rfl := hrel
        go_wp2
        go_ret
        exact ⟨rfl, 0, rfl⟩
    · obtain ⟨g, off, rfl, hga⟩ := hra (fun e => h0 (by rw [← hA'.out, e]; rfl))
      obtain ⟨g', off', rfl, hgb⟩ := hrb (fun e => h0 (by rw [← hB'.out, e]; rfl))
      clear hra hrb
      have HA := Lib.hid hga
      have HB := Lib.hid hgb
      clear hga hgb
      go_enter Try.func17, Try.ntmps17
      go_wp2
      go_loopw [5] (fun i wr => ∃ k j : Nat, k ≤ n ∧ i = .int .i64 k ∧ Hid (A.take k = B.take k) ∧ wr = w.drewN j) (fun i _ => n - (intOf i).toNat)
      case atStart => exact ⟨0, 0, Nat.zero_le _, rfl, rfl, rfl⟩
      case round =>
        obtain ⟨k, j, hk, rfl, HT, rfl⟩ := hrel
        by_cases hlt : k < n
        · have ca : w.cell? ⟨g, off + k, none⟩ = some (.int .u8 (A[k]?.getD 0)) := HA.out k hlt
          have cb : w.cell? ⟨g', off' + k, none⟩ = some (.int .u8 (B[k]?.getD 0)) := HB.out k hlt
          obtain ⟨x, hx⟩ : ∃ x, x = A[k]?.getD 0 := ⟨_, rfl⟩
          obtain ⟨y, hy⟩ : ∃ y, y = B[k]?.getD 0 := ⟨_, rfl⟩
          rw [← hx] at ca
          rw [← hy] at cb
          have HX := Lib.hid hx
          have HY := Lib.hid hy
          clear hx hy
          have hkn : (k : Int) < (n : Int) := by omega
          by_cases hxy : x = y
          · have ht : (x != y) = false := by simp [hxy]
            have HE := Lib.hid hxy
            clear hxy
            go_wp2
            go_quiet (fail)
            go_wp2
            go_roundw
            case rel => exact ⟨k + 1, _, by omega, by go_num, (take_same A B k (by rw [hA'.out]; exact hlt) (by rw [hB'.out]; exact hlt) HT.out).2 (by rw [← HX.out, ← HY.out]; exact HE.out), by first | rfl | (simp; done)⟩
            case measure => simp [intOf]; omega
          · have ht : (x != y) = true := by simp [hxy]
            have HE := Lib.hid hxy
            clear hxy
            go_wp2
            go_quiet (fail)
            go_wp2
            go_ret
            exact ⟨ret_bool (same_stop A B k (by rw [← HX.out, ← HY.out]; exact HE.out)).symm, j + nq, by simp⟩
        · obtain rfl : k = n := by omega
          go_wp2
          go_ret
          exact ⟨ret_bool (same_all A B k hA'.out hB'.out HT.out).symm, _, rfl⟩
  · have hd : decide (A = B) = false := by rw [decide_eq_false_iff_not]; rintro rfl; exact hl rfl
    rw [hd]
    have hl' : ((A.length : Int) != (B.length : Int)) = true := by simp; omega
    go_enter Try.func17, Try.ntmps17
    go_wp2
    go_ret
    exact ⟨rfl, 0, rfl⟩


end Go.Proofs.Ytgjhboikfbafcaa.Base
