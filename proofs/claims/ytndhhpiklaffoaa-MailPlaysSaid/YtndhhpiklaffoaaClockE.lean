/-
  The library's Delete at a clock's alarms, and the clock's cut.
-/
import Derived.Test.YtndhhpiklaffoaaClockD
namespace Go.Proofs.Ytndhhpiklaffoaa.Clock
open Go.RowKit
open Mail (Turn ret_int ret_bool)
set_option linter.unusedVariables false

def DelPost (w : World) (b : Nat) (now k : Int) (M : Nat → Int × Int) (n i j : Nat) (e : Ending) (w' : World) : Prop :=
  ∃ M', e = .returned (.slice (some ⟨b, 1, none⟩) (i + (n - j)) 64) ∧ Raw w' b now M' k ∧ (∀ p, p < i + (n - j) → M' p = if p < i then M p else M (p - i + j)) ∧ Turn (At b) w w'
set_option maxRecDepth 100000 in
set_option maxHeartbeats 1000000 in
theorem delete_any {b : Nat} {now k : Int} {M : Nat → Int × Int} (n i j : Nat) (w : World) (h : Raw w b now M k) (hij : i ≤ j) (hjn : j ≤ n) (hn : n ≤ 64) :
    Calls Try.prog 54 #[.slice (some ⟨b, 1, none⟩) n 64, .int .i64 i, .int .i64 j] w (DelPost w b now k M n i j) := by
  have gij : (i : Int) ≤ (j : Int) := by omega
  have gjn : (j : Int) ≤ (n : Int) := by omega
  have gn : (n : Int) ≤ 64 := by omega
  by_cases he : i = j
  · subst he
    by_cases hin : i = n
    · subst hin
      go_enter Try.func54, Try.ntmps54
      go_wp2
      go_ret
      exact ⟨M, (by rw [show i + (i - i) = i by omega]; rfl), h, fun p hp => by rw [if_pos (by omega)], Mail.Turn.refl _ _⟩
    · go_enter Try.func54, Try.ntmps54
      go_wp2
      go_ret
      exact ⟨M, (by rw [show i + (n - i) = n by omega]; rfl), h, fun p hp => by
        by_cases hpi : p < i
        · rw [if_pos hpi]
        · rw [if_neg hpi, show p - i + i = p by omega], Mail.Turn.refl _ _⟩
  · have glt : (i : Int) < (j : Int) := by omega
    have hne : ((i : Int) == (j : Int)) = false := by simp; omega
    have hin : ¬ i = n := by omega
    have gi64 : (i : Int) ≤ 64 := by omega
    obtain ⟨i0, hi, hz, hsz, _⟩ := info_parts info_alarm
    have HH := Lib.hid h
    clear he h
    by_cases h64 : j = 64
    · subst h64
      obtain rfl : n = 64 := by omega
      go_enter Try.func54, Try.ntmps54
      go_wp2
      have h1 : Raw w.drew b now M k := HH.out
      go_region_law (refine step_append_room rfl (.tmp 22) (.tmp 25) 103 rfl 54 i0 2 Try.underlying103 hi hsz b 1 i 64 (by simp [Act.eval, Act.put]) ⟨b, 1, none⟩ 0 0 [] (by simp [Act.eval, Act.put]) rfl (fun q u hq => by simp at hq) (fun u hu => by simp at hu) (by omega) (fun q hq => by simp at hq) ?_)
      have ht2 : Turn (At b) w w.drew := ⟨rfl, rfl, rfl, Nat.le_refl _, fun _ _ _ => rfl⟩
      change Exit.then _ _ Exit.normal _ w.drew
      obtain ⟨W1, hW1⟩ : ∃ W1, W1 = w.drew := ⟨_, rfl⟩
      rw [← hW1] at h1 ht2 ⊢
      clear hW1
      have gmn : (i : Int) < 64 := by omega
      have hcl := fun ty c => run_clear2 W1 ty b (1 + i * 2) (64 - i) c (by omega) (fun q hq => h1.isSome _ (by omega)) (fun q hq => h1.frozen _)
      have h3 := h1.setL i (List.replicate (64 - i) (0, 0)) (by rw [List.length_replicate]; omega)
      have ht3 := ht2.trans (turn_setCells W1 b (flat (List.replicate (64 - i) (0, 0))) (1 + i * 2))
      have H2 := Lib.hid h1
      have H3 := Lib.hid h3
      have HT3 := Lib.hid ht3
      have hm64' : ¬ 64 = i := by omega
      have hnm2 : ¬ 64 - i = 0 := by omega
      clear h1 h3 ht2 ht3
      go_wp2
      go_ret
      refine ⟨_, rfl, H3.out, fun p hp => ?_, HT3.out⟩
      rw [setL_get, if_neg (by omega), if_pos (by omega)]
    · have h64' : ¬ 64 = j := by omega
      go_enter Try.func54, Try.ntmps54
      go_wp2
      have h1 : Raw w.drew b now M k := HH.out
      go_region_law (refine step_append_room rfl (.tmp 22) (.tmp 25) 103 rfl 54 i0 2 Try.underlying103 hi hsz b 1 i 64 (by simp [Act.eval, Act.put]) ⟨b, 1 + j * 2, none⟩ (n - j) (64 - j) (flat (seg M j (n - j))) (by simp [Act.eval, Act.put]) (by rw [flat_length, seg_length]) (h1.cells j (n - j) (by omega)) (flat_one _) (by omega) (fun q hq => ⟨h1.room i (seg M j (n - j)) (by rw [seg_length]; omega) q hq, h1.frozen _⟩) ?_)
      have h2 := h1.setL i (seg M j (n - j)) (by rw [seg_length]; omega)
      have hs2 := size_setCells w.drew b (flat (seg M j (n - j))) (1 + i * 2)
      have ht2 : Turn (At b) w (w.drew.setCells b (1 + i * 2) (flat (seg M j (n - j)))) := (⟨rfl, rfl, rfl, Nat.le_refl _, fun _ _ _ => rfl⟩ : Turn (At b) w w.drew).trans (turn_setCells w.drew b _ _)
      obtain ⟨W1, hW1⟩ : ∃ W1, W1 = w.drew.setCells b (1 + i * 2) (flat (seg M j (n - j))) := ⟨_, rfl⟩
      rw [← hW1] at h2 ht2 ⊢
      clear hW1 hs2 h1
      obtain ⟨m, hm⟩ : ∃ m, m = i + (n - j) := ⟨_, rfl⟩
      rw [← hm]
      have hmn : m < n := by omega
      have gmn : (m : Int) < (n : Int) := by omega
      have gmn' : (m : Int) ≤ (n : Int) := by omega
      have hcl := fun ty c => run_clear2 W1 ty b (1 + m * 2) (n - m) c (by omega) (fun q hq => h2.isSome _ (by omega)) (fun q hq => h2.frozen _)
      have h3 := h2.setL m (List.replicate (n - m) (0, 0)) (by rw [List.length_replicate]; omega)
      have ht3 := ht2.trans (turn_setCells W1 b (flat (List.replicate (n - m) (0, 0))) (1 + m * 2))
      have HM := Lib.hid hm
      have H2 := Lib.hid h2
      have H3 := Lib.hid h3
      have HT3 := Lib.hid ht3
      have hnm : ¬ m = n := by omega
      have hnm2 : ¬ n - m = 0 := by omega
      have hm64 : ¬ m = 64 := by omega
      have hm64' : ¬ 64 = m := by omega
      clear hm h2 h3 ht2 ht3
      go_wp2
      go_ret
      refine ⟨_, by rw [← HM.out]; rfl, H3.out, fun p hp => ?_, HT3.out⟩
      rw [← HM.out] at hp
      rw [setL_get, if_neg (by omega), setL_get, seg_length]
      by_cases hpi : p < i
      · rw [if_neg (by omega), if_pos hpi]
      · rw [if_pos (by have := HM.out; omega), if_neg hpi, seg_get _ _ _ _ (by have := HM.out; omega), show j + (p - i) = p - i + j by omega]
/-- A clock without the alarms from place i up to place j. -/
theorem cut_any {b : Nat} {now : Int} {L : List (Int × Int)} (i j : Nat) (w : World) (h : ClockAt w b now L) (hij : i ≤ j) (hjn : j ≤ L.length) :
    Calls Try.prog 47 #[.pointer (some ⟨b, 0, none⟩), .int .i64 i, .int .i64 j] w fun e w' => e = .returned (.tuple #[]) ∧ ClockAt w' b now (L.take i ++ L.drop j) ∧ Turn (At b) w w' := by
  have ht := there_any h
  obtain ⟨M, hM, hl, hr⟩ := h
  obtain ⟨n, hn⟩ : ∃ n, n = L.length := ⟨_, rfl⟩
  rw [← hn] at hl hr hM ht hjn
  have HT := Lib.hid ht
  have HN := Lib.hid hn
  have HM := Lib.hid hM
  have hR : Raw w b now M n := hr
  have HR := Lib.hid hR
  clear ht hn hM hr hR
  go_enter Try.func47, Try.ntmps47
  go_wp2_with fail
  refine HT.out.mono ?_
  rintro e w1 ⟨rfl, n1, rfl⟩
  go_wp2_with fail
  refine (delete_any (M := M) n i j (w.drewN n1) (show Raw (w.drewN n1) b now M n from HR.out) hij hjn hl).mono ?_
  rintro e w2 ⟨M', rfl, h2, hp, ht2⟩
  obtain ⟨m, hm⟩ : ∃ m, m = i + (n - j) := ⟨_, rfl⟩
  rw [← hm] at hp ⊢
  have h3 : Raw (w2.setCell ⟨b, 129, none⟩ (.int .i64 m)) b now M' m := by
    have := heap_set h2 129 (.int .i64 m)
    rw [clk_many] at this
    exact this
  have hc : w2.cell? ⟨b, 129, none⟩ = some (.int .i64 n) := by
    have := clk_get now M' n 129 (by omega)
    simpa [World.cell?, show w2.heap[b]? = _ from h2, cellOf] using this
  have hf := h2.frozen 129
  have ht3 : Turn (At b) w (w2.setCell ⟨b, 129, none⟩ (.int .i64 m)) := ((⟨rfl, rfl, rfl, Nat.le_refl _, fun _ _ _ => rfl⟩ : Turn (At b) w (w.drewN n1)).trans ht2).trans ⟨rfl, rfl, rfl, by simp, fun q hq hS => Below.heap_setCell _ _ _ _ (fun e => hS e)⟩
  have H3 := Lib.hid h3
  have HT3 := Lib.hid ht3
  have HP := Lib.hid hp
  have HMM := Lib.hid hm
  clear h2 h3 ht2 ht3 hp hm
  go_wp2
  refine bodyPost_end (results_none rfl _ _ _) rfl ?_
  have hlen : (L.take i ++ L.drop j).length = m := by rw [List.length_append, List.length_take, List.length_drop, ← HN.out, HMM.out]; omega
  refine ⟨rfl, ⟨M', fun p hp => ?_, by rw [hlen]; have := HMM.out; omega, by rw [hlen]; exact H3.out⟩, HT3.out⟩
  rw [hlen] at hp
  rw [HP.out p hp]
  have hL := HN.out
  have hmm := HMM.out
  by_cases hpi : p < i
  · rw [if_pos hpi, HM.out p (by omega)]
    simp only [List.getD]
    rw [List.getElem?_append_left (by rw [List.length_take]; omega), List.getElem?_take_of_lt hpi]
  · rw [if_neg hpi, HM.out _ (by omega)]
    simp only [List.getD]
    rw [List.getElem?_append_right (by rw [List.length_take]; omega), List.getElem?_drop, List.length_take, show j + (p - min i L.length) = p - i + j by omega]
end Go.Proofs.Ytndhhpiklaffoaa.Clock
