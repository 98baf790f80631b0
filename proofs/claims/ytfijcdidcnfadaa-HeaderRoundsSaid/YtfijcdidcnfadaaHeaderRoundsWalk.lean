/-
  The walk of HeaderRounds.
-/
import Derived.Test.YtfijcdidcnfadaaHeadE
import Derived.Test.YtfijcdidcnfadaaOpenH
namespace Go.Proofs.Ytfijcdidcnfadaa.Head
open Go.RowKit Base
set_option linter.unusedVariables false

theorem give_nodup (P : List Int) (n : Int) (h : P.Nodup) : (giveP P n).Nodup ∧ n ∈ giveP P n ∧ n ∉ (giveP P n).erase n ∧ ((giveP P n).erase n).Nodup := by
  have h1 : (P.erase n).Nodup := h.erase n
  have h2 : n ∉ P.erase n := h.not_mem_erase
  have key : ∀ Q : List Int, Q.Nodup → n ∉ Q → (Q ++ [n]).Nodup ∧ n ∈ Q ++ [n] ∧ n ∉ (Q ++ [n]).erase n ∧ ((Q ++ [n]).erase n).Nodup := by
    intro Q hq hn
    have hd : (Q ++ [n]).Nodup := by
      rw [List.nodup_append]
      refine ⟨hq, by simp, fun a ha b hb => ?_⟩
      rw [List.mem_singleton.1 hb]
      intro e; rw [e] at ha; exact hn ha
    exact ⟨hd, by simp, hd.not_mem_erase, hd.erase n⟩
  unfold giveP
  split
  · exact key _ (h1.sublist (List.eraseIdx_sublist _ _)) fun hm => h2 ((List.eraseIdx_sublist _ _).subset hm)
  · exact key _ h1 h2
/-- Behind so many numbers. -/
structure RR (s : Nat) (w : World) (k : Nat) (wr : World) (P : List Int) : Prop where
  cnt : CntAt wr s ((k : Int) % 32768) P
  nd : P.Nodup
  old : Below w.heap.size w wr
def RoundRel (s : Nat) (w : World) (m : Nat) (i : Value) (wr : World) : Prop := ∃ k P, k ≤ m ∧ i = .int .i64 (k : Nat) ∧ RR s w k wr P
set_option maxRecDepth 100000 in
set_option maxHeartbeats 4000000 in
theorem headerRounds_law {w : World} (n : Int) (hwf : (Lit.int .i64 n).wf = true) :
    Calls Try.prog 6 #[.int .i64 n] w fun e W' => e = .returned (.bool true) ∧ Below w.heap.size w W' := by
  have hzc := (zero_of_info info_cnt).1
  obtain ⟨m, hand, hm, _⟩ := Open.mask_nat n 65535 16 65536 (by omega) (by decide) (by decide)
  have hand : bits .and .i64 n 65535 = (m : Int) := hand
  have hm : m < 65536 := hm
  clear hwf
  go_enter Try.func6, Try.ntmps6
  go_wp2_with fail
  refine (head_alive w).mono ?_
  rintro e W1 ⟨rfl, b1⟩
  have hcn := cnt_new W1
  have hb2 := b1.trans ((below_alloc W1 (.cells zcnt 50)).mono b1.size)
  obtain ⟨W2, hW2⟩ : ∃ W2, W2 = W1.alloc (.cells zcnt 50) := ⟨_, rfl⟩
  obtain ⟨s, hs⟩ : ∃ s, s = W1.heap.size := ⟨_, rfl⟩
  rw [← hW2, ← hs] at hcn
  rw [← hW2] at hb2
  have HWS : Hid (w.heap.size ≤ s) := Lib.hid (by rw [hs]; exact b1.size)
  have HW2 := Lib.hid hW2.symm
  have HS := Lib.hid hs.symm
  have HC := Lib.hid hcn
  have HB := Lib.hid hb2
  clear b1 hcn hb2 hW2 hs
  go_upto_region 4 with fail
  rw [HW2.out, HS.out]
  go_wp2_with fail
  go_loopw [10] (fun i wr => RoundRel s w m i wr) (fun i _ => m - (intOf i).toNat)
  case atStart => exact ⟨0, [], by omega, rfl, HC.out, by simp, HB.out⟩
  case round =>
    obtain ⟨k, P, hk, rfl, hr⟩ := hrel
    have HR := Lib.hid hr
    clear hr
    by_cases hkm : k < m
    · obtain ⟨x, hx⟩ : ∃ x : Int, x = (k : Int) % 32768 := ⟨_, rfl⟩
      have hx0 : 0 ≤ x := by omega
      have hx1 : x ≤ 32767 := by omega
      have hc := HR.out.cnt
      rw [← hx] at hc
      have HCC := Lib.hid hc
      have HX := Lib.hid hx
      obtain ⟨q1, q2, q3, q4⟩ := give_nodup P x HR.out.nd
      have HQ := Lib.hid q1
      have HQ2 := Lib.hid q2
      have HQ3 := Lib.hid q3
      have HQ4 := Lib.hid q4
      have t1 : ((k : Int) % 32768) = x := hx.symm
      have hkm' : (k : Int) < (m : Int) := by omega
      clear hx hc q1 q2 q3 q4
      go_wp2_with fail
      refine (next_any HCC.out hx0 hx1).mono ?_
      rintro e W3 ⟨rfl, hc3, ht3⟩
      have HC3 := Lib.hid hc3
      have HB3 := Lib.hid (HR.out.old.trans (ht3.at_below HR.out.old.size HWS.out))
      clear hc3 ht3
      have HNX : Hid (∀ W R, CntAt W s ((x + 1) % 32768) R → R.Nodup → Below w.heap.size w W → RR s w (k + 1) W R) := Lib.hid fun W R h1 h2 h3 => ⟨by rw [show (((k + 1 : Nat) : Int) % 32768) = (x + 1) % 32768 by have := HX.out; omega]; exact h1, h2, h3⟩
      by_cases h1000 : (k : Int) % 1000 = 0
      · go_wp2_with fail
        refine (got_any x HC3.out).mono ?_
        rintro e W4 ⟨rfl, hc4, ht4⟩
        rw [decide_eq_true HQ2.out]
        have HC4 := Lib.hid hc4
        have HB4 := Lib.hid (HB3.out.trans (ht4.at_below HB3.out.size HWS.out))
        clear hc4 ht4
        go_wp2_with fail
        refine (got_any x HC4.out).mono ?_
        rintro e W5 ⟨rfl, hc5, ht5⟩
        rw [decide_eq_false HQ3.out]
        have HC5 := Lib.hid hc5
        have HB5 := Lib.hid (HB4.out.trans (ht5.at_below HB4.out.size HWS.out))
        clear hc5 ht5
        go_wp2_with fail
        go_roundw
        case rel => exact ⟨k + 1, _, by omega, by go_num, HNX.out _ _ HC5.out (HQ4.out.erase x) HB5.out⟩
        case measure => simp [intOf]; omega
      · have t2 : ((k : Int) % 1000 == 0) = false := by simpa using h1000
        go_wp2_with fail
        go_roundw
        case rel => exact ⟨k + 1, _, by omega, by go_num, HNX.out _ _ HC3.out HQ.out HB3.out⟩
        case measure => simp [intOf]; omega
    · obtain rfl : m = k := by omega
      have hle := HR.out.cnt.le
      obtain ⟨pl, hpl⟩ : ∃ pl, pl = P.length := ⟨_, rfl⟩
      have hple : (pl : Int) ≤ 64 := by omega
      have HP := Lib.hid hpl
      clear hle hpl
      go_wp2_with fail
      refine (pending_any HR.out.cnt).mono ?_
      rintro e W' ⟨rfl, rfl⟩
      rw [← HP.out]
      go_wp2_with fail
      go_ret
      exact ⟨rfl, HR.out.old⟩
end Go.Proofs.Ytfijcdidcnfadaa.Head
