/-
  The first field of bytes.
-/
import Derived.Test.YtmmgebiojpnhcaaDoorCmdE
namespace Go.Proofs.YtmmgebiojpnhcaaDoor.Cmd
open Go.RowKit Base Go.Proofs.YtmmgebiojpnhcaaDoor.Ord
set_option linter.unusedVariables false
set_option linter.unusedSimpArgs false

def CutK (w : World) (v : Value) (L : List Int) (e : Ending) (w' : World) : Prop := ∃ va vb, e = .returned (.tuple #[va, vb, .bool (cutM L).isSome]) ∧ (∀ p, cutM L = some p → ∀ w0, CutRow w0 v L → CutRow w0 va p.1 ∧ CutRow w0 vb p.2) ∧ Below w.heap.size w w'
set_option maxRecDepth 100000 in
set_option maxHeartbeats 4000000 in
theorem cut_any {w : World} (v : Value) (L : List Int) (hc : CutRow w v L) (hb : ∀ x ∈ L, 0 ≤ x ∧ x < 256) (hm : L.length ≤ 1000000) :
    Calls Tryd.prog 36 #[v] w (CutK w v L) := by
  obtain ⟨a, c, rfl⟩ : ∃ a c, v = .slice a L.length c := by obtain ⟨_, a, c, e, _⟩ := hc; exact ⟨a, c, e⟩
  obtain ⟨n, hn⟩ : ∃ n, n = L.length := ⟨_, rfl⟩
  rw [← hn] at hc ⊢
  have HC := Lib.hid hc
  have HN := Lib.hid hn
  have hn6 : n ≤ 1000000 := by rw [hn]; exact hm
  by_cases hn2 : n < 2
  · have HE : Hid (cutM L = none) := Lib.hid (by unfold cutM; rw [if_pos (by rw [← hn]; exact hn2)])
    have h2 : (n : Int) < 2 := by omega
    clear hc hn hm
    go_enter Tryd.func36, Tryd.ntmps36
    go_wp2_with fail
    refine bodyPost_ret (v := .tuple #[.slice none 0 0, .slice none 0 0, .bool false]) (by simp [results, Tryd.results36, go_sem]) rfl ?_
    exact ⟨_, _, by rw [HE.out]; rfl, fun p hp _ _ => by (rw [HE.out] at hp; cases hp), Below.refl _ _⟩
  have h2 : ¬ (n : Int) < 2 := by omega
  obtain ⟨-, hncap, b, off, rfl, hcell⟩ := CutRow.nth hc (by omega)
  obtain ⟨x, hx⟩ : ∃ x, x = nthL L 0 := ⟨_, rfl⟩
  obtain ⟨y, hy⟩ : ∃ y, y = nthL L 1 := ⟨_, rfl⟩
  have c0 : w.cell? ⟨b, off, none⟩ = some (.int .u8 x) := by rw [hx]; exact hcell 0 (by omega)
  have c1 : w.cell? ⟨b, off + 1, none⟩ = some (.int .u8 y) := by rw [hy]; exact hcell 1 (by omega)
  have hxb : 0 ≤ x ∧ x < 256 := by rw [hx]; unfold nthL; rw [List.getElem?_eq_getElem (by omega)]; exact hb _ (List.getElem_mem _)
  have hyb : 0 ≤ y ∧ y < 256 := by rw [hy]; unfold nthL; rw [List.getElem?_eq_getElem (by omega)]; exact hb _ (List.getElem_mem _)
  obtain ⟨m, hmm⟩ : ∃ m : Nat, (m : Int) = x * 256 + y := ⟨(x * 256 + y).toNat, by omega⟩
  have HM := Lib.hid hmm
  have HX := Lib.hid hx
  have HY := Lib.hid hy
  have h10 : (0 : Int) ≤ 1 ∧ (1 : Int) < (n : Int) := by omega
  have h00 : (0 : Int) < (n : Int) := by omega
  clear hc hn hm hx hy hcell hmm hn2
  rcases Nat.eq_zero_or_pos m with hm0 | hm0
  · subst hm0
    have HMM : Hid (manyM L = n) := Lib.hid (by unfold manyM; rw [← HX.out, ← HY.out, ← HM.out]; simp [HN.out])
    have ez : x * 256 + y = 0 := HM.out.symm
    by_cases hbad : n ≤ 2 ∨ n < n
    · have HE : Hid (cutM L = none) := Lib.hid (by unfold cutM; rw [if_neg (by rw [← HN.out]; omega), if_pos (by rw [HMM.out, ← HN.out]; exact hbad)])
      rcases Nat.lt_or_ge 2 n with h3 | h3
      · have t1 : ¬ (n : Int) ≤ 2 := by omega
        have t2 : (n : Int) < (n : Int) := by omega
        clear hbad
        go_enter Tryd.func36, Tryd.ntmps36
        go_upto_region 3 with fail
        go_quiet (fail)
        first | rw [← HM.out] | skip
        have HB := Lib.hid (below_drewN (Below.refl w.heap.size w) nq)
        go_wp2_with fail
        refine bodyPost_ret (v := .tuple #[.slice none 0 0, .slice none 0 0, .bool false]) (by simp [results, Tryd.results36, go_sem]) rfl ?_
        exact ⟨_, _, by rw [HE.out]; rfl, fun p hp _ _ => by (rw [HE.out] at hp; cases hp), HB.out⟩
      · have t1 : (n : Int) ≤ 2 := by omega
        clear hbad
        go_enter Tryd.func36, Tryd.ntmps36
        go_upto_region 3 with fail
        go_quiet (fail)
        first | rw [← HM.out] | skip
        have HB := Lib.hid (below_drewN (Below.refl w.heap.size w) nq)
        go_wp2_with fail
        refine bodyPost_ret (v := .tuple #[.slice none 0 0, .slice none 0 0, .bool false]) (by simp [results, Tryd.results36, go_sem]) rfl ?_
        exact ⟨_, _, by rw [HE.out]; rfl, fun p hp _ _ => by (rw [HE.out] at hp; cases hp), HB.out⟩
    · have h3 : 2 < n ∧ n ≤ n := by omega
      have HE : Hid (cutM L = some ((L.take n).drop 2, L.drop n)) := Lib.hid (by unfold cutM; rw [if_neg (by rw [← HN.out]; omega), if_neg (by rw [HMM.out, ← HN.out]; exact hbad), HMM.out])
      have t1 : ¬ (n : Int) ≤ 2 := by omega
      have t2 : ¬ (n : Int) < (n : Int) := by omega
      have HS1 := Lib.hid (fun w0 (h : CutRow w0 (.slice (some ⟨b, off, none⟩) n c) L) => slice_mid h 2 n (by omega) h3.2)
      have HS2 := Lib.hid (show ∀ w0, CutRow w0 (.slice (some ⟨b, off, none⟩) n c) L → CutRow w0 (sliced (some ⟨b, off, none⟩) n n c 1) (L.drop n) from fun w0 h => by
        have h4 := slice_mid h n n h3.2 (Nat.le_refl _)
        rwa [List.take_of_length_le (by rw [← HN.out]; exact Nat.le_refl _)] at h4)
      obtain ⟨va, hva⟩ : ∃ va, va = sliced (some ⟨b, off, none⟩) 2 n c 1 := ⟨_, rfl⟩
      obtain ⟨vb, hvb⟩ : ∃ vb, vb = sliced (some ⟨b, off, none⟩) n n c 1 := ⟨_, rfl⟩
      have hsa : ∀ W, (Instr.slice 22 (.slice (some ⟨b, off, none⟩) n c) (some (.int .i64 2)) (some (.int .i64 n)) none).run Tryd.prog W = .ok va W := fun W => by rw [hva]; exact slice_run 2 n (by omega) h3.2 hncap W
      have hsb : ∀ W, (Instr.slice 22 (.slice (some ⟨b, off, none⟩) n c) (some (.int .i64 n)) none none).run Tryd.prog W = .ok vb W := fun W => by rw [hvb]; exact slice_run_from n h3.2 hncap W
      rw [← hva] at HS1
      rw [← hvb] at HS2
      clear hbad hva hvb
      go_enter Tryd.func36, Tryd.ntmps36
      go_upto_region 3 with fail
      go_quiet (fail)
      first | rw [← HM.out] | skip
      have HB := Lib.hid (below_drewN (Below.refl w.heap.size w) nq)
      go_upto_region 8 with fail
      go_quiet (fail)
      go_wp2_with fail
      refine bodyPost_ret (v := .tuple #[va, vb, .bool true]) (by simp [results, Tryd.results36, go_sem]) rfl ?_
      exact ⟨_, _, by rw [HE.out]; rfl, fun p hp w0 h0 => by (rw [HE.out] at hp; injection hp with hp; subst hp; exact ⟨HS1.out _ h0, HS2.out _ h0⟩), below_drewN (Below.refl w.heap.size w) _⟩
  · have HMM : Hid (manyM L = m) := Lib.hid (by unfold manyM; rw [← HX.out, ← HY.out, ← HM.out]; simp; omega)
    have tm : ((m : Int) == 0) = false := by simp; omega
    by_cases hbad : m ≤ 2 ∨ n < m
    · have HE : Hid (cutM L = none) := Lib.hid (by unfold cutM; rw [if_neg (by rw [← HN.out]; omega), if_pos (by rw [HMM.out, ← HN.out]; exact hbad)])
      rcases Nat.lt_or_ge 2 m with h3 | h3
      · have t1 : ¬ (m : Int) ≤ 2 := by omega
        have t2 : (n : Int) < (m : Int) := by omega
        clear hbad
        go_enter Tryd.func36, Tryd.ntmps36
        go_upto_region 3 with fail
        go_quiet (fail)
        first | rw [← HM.out] | skip
        have HB := Lib.hid (below_drewN (Below.refl w.heap.size w) nq)
        go_wp2_with fail
        refine bodyPost_ret (v := .tuple #[.slice none 0 0, .slice none 0 0, .bool false]) (by simp [results, Tryd.results36, go_sem]) rfl ?_
        exact ⟨_, _, by rw [HE.out]; rfl, fun p hp _ _ => by (rw [HE.out] at hp; cases hp), HB.out⟩
      · have t1 : (m : Int) ≤ 2 := by omega
        clear hbad
        go_enter Tryd.func36, Tryd.ntmps36
        go_upto_region 3 with fail
        go_quiet (fail)
        first | rw [← HM.out] | skip
        have HB := Lib.hid (below_drewN (Below.refl w.heap.size w) nq)
        go_wp2_with fail
        refine bodyPost_ret (v := .tuple #[.slice none 0 0, .slice none 0 0, .bool false]) (by simp [results, Tryd.results36, go_sem]) rfl ?_
        exact ⟨_, _, by rw [HE.out]; rfl, fun p hp _ _ => by (rw [HE.out] at hp; cases hp), HB.out⟩
    · have h3 : 2 < m ∧ m ≤ n := by omega
      have HE : Hid (cutM L = some ((L.take m).drop 2, L.drop m)) := Lib.hid (by unfold cutM; rw [if_neg (by rw [← HN.out]; omega), if_neg (by rw [HMM.out, ← HN.out]; exact hbad), HMM.out])
      have t1 : ¬ (m : Int) ≤ 2 := by omega
      have t2 : ¬ (n : Int) < (m : Int) := by omega
      have HS1 := Lib.hid (fun w0 (h : CutRow w0 (.slice (some ⟨b, off, none⟩) n c) L) => slice_mid h 2 m (by omega) h3.2)
      have HS2 := Lib.hid (show ∀ w0, CutRow w0 (.slice (some ⟨b, off, none⟩) n c) L → CutRow w0 (sliced (some ⟨b, off, none⟩) m n c 1) (L.drop m) from fun w0 h => by
        have h4 := slice_mid h m n h3.2 (Nat.le_refl _)
        rwa [List.take_of_length_le (by rw [← HN.out]; exact Nat.le_refl _)] at h4)
      obtain ⟨va, hva⟩ : ∃ va, va = sliced (some ⟨b, off, none⟩) 2 m c 1 := ⟨_, rfl⟩
      obtain ⟨vb, hvb⟩ : ∃ vb, vb = sliced (some ⟨b, off, none⟩) m n c 1 := ⟨_, rfl⟩
      have hsa : ∀ W, (Instr.slice 22 (.slice (some ⟨b, off, none⟩) n c) (some (.int .i64 2)) (some (.int .i64 m)) none).run Tryd.prog W = .ok va W := fun W => by rw [hva]; exact slice_run 2 m (by omega) h3.2 hncap W
      have hsb : ∀ W, (Instr.slice 22 (.slice (some ⟨b, off, none⟩) n c) (some (.int .i64 m)) none none).run Tryd.prog W = .ok vb W := fun W => by rw [hvb]; exact slice_run_from m h3.2 hncap W
      rw [← hva] at HS1
      rw [← hvb] at HS2
      clear hbad hva hvb
      go_enter Tryd.func36, Tryd.ntmps36
      go_upto_region 3 with fail
      go_quiet (fail)
      first | rw [← HM.out] | skip
      have HB := Lib.hid (below_drewN (Below.refl w.heap.size w) nq)
      go_upto_region 8 with fail
      go_quiet (fail)
      go_wp2_with fail
      refine bodyPost_ret (v := .tuple #[va, vb, .bool true]) (by simp [results, Tryd.results36, go_sem]) rfl ?_
      exact ⟨_, _, by rw [HE.out]; rfl, fun p hp w0 h0 => by (rw [HE.out] at hp; injection hp with hp; subst hp; exact ⟨HS1.out _ h0, HS2.out _ h0⟩), below_drewN (Below.refl w.heap.size w) _⟩
end Go.Proofs.YtmmgebiojpnhcaaDoor.Cmd
