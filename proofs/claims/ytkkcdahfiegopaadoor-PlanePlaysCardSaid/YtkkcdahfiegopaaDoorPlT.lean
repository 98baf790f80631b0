/-
  The document's places between two.
-/
import Derived.Test.YtkkcdahfiegopaaDoorPlS
namespace Go.Proofs.YtkkcdahfiegopaaDoor.Pl
open Go.RowKit Go.Shelf Base
set_option linter.unusedVariables false
set_option linter.unusedSimpArgs false
theorem info_int : (Tryd.prog.info? 3).map (fun i => (i.zero, i.size, i.bytes)) = some (some (.int .i64 0), 1, 8) := by kernel_rfl
theorem betw_empty (n a b : Int) (h : ¬ (0 ≤ a ∧ a < n ∧ 0 ≤ b ∧ b < n)) : betw n a b = [] := by
  unfold betw; rw [if_neg (by unfold inn; simp only [decide_eq_true_eq]; exact h)]
theorem betw_all (n a b : Int) (h : 0 ≤ a ∧ a < n ∧ 0 ≤ b ∧ b < n) : betw n a b = first n a (many n a b) := by
  unfold betw; rw [if_pos (by unfold inn; simp only [decide_eq_true_eq]; exact h)]
/-- Behind the first lines: a row of no cells, and the number of cells. -/
theorem row_start (w w' : World) (o : Obj) (hb : Below ((w.alloc o).alloc (.cells #[] 3)).heap.size ((w.alloc o).alloc (.cells #[] 3)) w') :
    w'.ownsRow w.heap.size 3 1 (.slice (some ⟨w.heap.size + 1, 0, none⟩) 0 0) 0 [] ∧ Below w.heap.size w w' := by
  refine ⟨World.ownsRow.kept (row := none) ⟨by simp, .inr ⟨w.heap.size + 1, 0, #[], rfl, by omega, ?_, by simp, by simp [maxLen], by simp, by simp⟩⟩ (grown_of_below hb) (by simp [Value.ownBlock]), ?_⟩
  · have := World.alloc_heap_new (w.alloc o) (.cells #[] 3)
    rwa [World.size_alloc] at this
  · exact (((Below.refl _ w).alloc (Nat.le_refl _) _).alloc (by rw [World.size_alloc]; omega) _).trans (hb.mono (by rw [World.size_alloc, World.size_alloc]; omega))

/-- What the loop knows between two rounds. -/
def RBrel (w : World) (n a : Int) (M : Nat) (v i : Value) (wr : World) : Prop :=
  ∃ k g cap : Nat, k ≤ M ∧ i = .int .i64 k ∧ v = .slice (some ⟨g, 0, none⟩) (first n a k).length cap ∧ wr.ownsRow w.heap.size 3 1 (.slice (some ⟨g, 0, none⟩) (first n a k).length cap) (first n a k).length ((first n a k).map (Value.int .i64)) ∧ Below w.heap.size w wr

set_option maxRecDepth 100000 in
set_option maxHeartbeats 4000000 in
theorem rbetween_any (r c a b n : Int) (w : World) (hn : Hid (cells r c = n)) (n0 : 0 ≤ n) (n1 : n ≤ 4096) :
    Calls Tryd.prog 35 #[.agg #[.int .i64 r, .int .i64 c], .int .i64 a, .int .i64 b] w fun e W' =>
      ∃ g cap, e = .returned (.slice (some ⟨g, 0, none⟩) (betw n a b).length cap) ∧ W'.ownsRow w.heap.size 3 1 (.slice (some ⟨g, 0, none⟩) (betw n a b).length cap) (betw n a b).length ((betw n a b).map (Value.int .i64)) ∧ Below w.heap.size w W' := by
  by_cases g0 : a < 0
  · go_enter Tryd.func35, Tryd.ntmps35
    go_wp2_with (go_at_call 32; refine (rcells_is _ _ _ _ hn.out).mono ?_; rintro e w' ⟨rfl, hb⟩)
    go_ret
    rw [betw_empty n a b (by omega)]
    exact ⟨_, _, rfl, row_start w w' _ hb⟩
  by_cases g1 : n ≤ a
  · go_enter Tryd.func35, Tryd.ntmps35
    go_wp2_with (go_at_call 32; refine (rcells_is _ _ _ _ hn.out).mono ?_; rintro e w' ⟨rfl, hb⟩)
    go_ret
    rw [betw_empty n a b (by omega)]
    exact ⟨_, _, rfl, row_start w w' _ hb⟩
  by_cases g2 : b < 0
  · go_enter Tryd.func35, Tryd.ntmps35
    go_wp2_with (go_at_call 32; refine (rcells_is _ _ _ _ hn.out).mono ?_; rintro e w' ⟨rfl, hb⟩)
    go_ret
    rw [betw_empty n a b (by omega)]
    exact ⟨_, _, rfl, row_start w w' _ hb⟩
  by_cases g3 : n ≤ b
  · go_enter Tryd.func35, Tryd.ntmps35
    go_wp2_with (go_at_call 32; refine (rcells_is _ _ _ _ hn.out).mono ?_; rintro e w' ⟨rfl, hb⟩)
    go_ret
    rw [betw_empty n a b (by omega)]
    exact ⟨_, _, rfl, row_start w w' _ hb⟩
  obtain ⟨i0, hi, hz0, hz1, hz2⟩ := info_parts info_int
  have hin : 0 ≤ a ∧ a < n ∧ 0 ≤ b ∧ b < n := by omega
  have hbe := betw_all n a b hin
  rw [hbe]
  have hmb := many_bd n a b (by unfold inn; simp only [decide_eq_true_eq]; exact hin)
  obtain ⟨M, hM⟩ : ∃ M, M = many n a b := ⟨_, rfl⟩
  rw [← hM] at hmb ⊢
  have hM2 : (M : Int) = if b - a ≤ 0 then b - a + n else b - a := by rw [hM]; unfold many; split <;> omega
  obtain ⟨m1, m2⟩ := hmb
  clear hM hbe hin
  by_cases hc : b - a ≤ 0
  · rw [if_pos hc] at hM2
    have HM := Lib.hid hM2
    clear hM2
    go_enter Tryd.func35, Tryd.ntmps35
    go_wp2_with (go_at_call 32; refine (rcells_is _ _ _ _ hn.out).mono ?_; rintro e w' ⟨rfl, hb⟩)
    have hst := row_start w w' _ hb
    have hsz : w.heap.size ≤ w'.heap.size := hst.2.size
    have HB := Lib.hid hb
    clear hb
    go_loopw [7, 10] (RBrel w n a M) (fun _ i _ => M - (intOf i).toNat)
    case atStart =>
      exact ⟨0, _, _, by omega, rfl, rfl, hst⟩
    case round =>
      obtain ⟨k, g, cap, hk, rfl, rfl, hrow, hB⟩ := hrel
      have hszr : w.heap.size ≤ wr.heap.size := hB.size
      by_cases hlt : k < M
      · have hk1 : (k : Int) < b - a + n := by have := HM.out; omega
        have hfl : (first n a k).length = k := first_length n a k
        have hfl1 : (first n a k).length + 1 ≤ 4096 := by omega
        clear hfl
        have ha0 : 0 ≤ a + k := by omega
        have ha1 : a + k ≤ 10000 := by omega
        go_wp2_with (at_builtin; refine wpList_append_own _ rfl _ _ 70 rfl w.heap.size 3 i0 (.int .i64 0) 1 8 Tryd.underlying70 hi hz0 hz1 hz2 rfl (by decide) _ _ _ rfl (hrow.alloc _) ⟨wr.heap.size, 0, none⟩ 1 1 [.int .i64 ((a + k) % n)] rfl rfl (cell_one_new _ _ _) (by simp [Value.oneCell']) (by unfold maxLen; omega) (by omega) (by simp; omega) ?_; intro v' w1 hown' hgrow _; obtain ⟨g', cap', rfl⟩ := ownsRow_succ hown')
        go_roundw
        case rel =>
          refine ⟨k + 1, g', cap', by omega, by go_num, by rw [first_succ, List.length_append]; rfl, ?_, ?_⟩
          · rw [first_succ, List.length_append, List.map_append]; exact hown'
          · exact (hB.alloc hszr _).grown hgrow (by simp; omega) (fun j e => (World.ownsRow.lt hrow j e).1)
        case measure => simp [intOf]; omega
      · obtain rfl : k = M := by omega
        have hk1 : b - a + n ≤ (k : Int) := by have := HM.out; omega
        go_wp2
        go_ret
        exact ⟨_, _, rfl, hrow, hB⟩
  · rw [if_neg hc] at hM2
    have HM := Lib.hid hM2
    clear hM2
    go_enter Tryd.func35, Tryd.ntmps35
    go_wp2_with (go_at_call 32; refine (rcells_is _ _ _ _ hn.out).mono ?_; rintro e w' ⟨rfl, hb⟩)
    have hst := row_start w w' _ hb
    have hsz : w.heap.size ≤ w'.heap.size := hst.2.size
    have HB := Lib.hid hb
    clear hb
    go_loopw [7, 10] (fun v i wr => ∃ k g cap : Nat, k ≤ M ∧ i = .int .i64 k ∧ v = .slice (some ⟨g, 0, none⟩) (first n a k).length cap ∧ wr.ownsRow w.heap.size 3 1 (.slice (some ⟨g, 0, none⟩) (first n a k).length cap) (first n a k).length ((first n a k).map (Value.int .i64)) ∧ Below w.heap.size w wr) (fun _ i _ => M - (intOf i).toNat)
    case atStart =>
      exact ⟨0, _, _, by omega, rfl, rfl, hst⟩
    case round =>
      obtain ⟨k, g, cap, hk, rfl, rfl, hrow, hB⟩ := hrel
      have hszr : w.heap.size ≤ wr.heap.size := hB.size
      by_cases hlt : k < M
      · have hk1 : (k : Int) < b - a := by have := HM.out; omega
        have hfl : (first n a k).length = k := first_length n a k
        have hfl1 : (first n a k).length + 1 ≤ 4096 := by omega
        clear hfl
        have ha0 : 0 ≤ a + k := by omega
        have ha1 : a + k ≤ 10000 := by omega
        go_wp2_with (at_builtin; refine wpList_append_own _ rfl _ _ 70 rfl w.heap.size 3 i0 (.int .i64 0) 1 8 Tryd.underlying70 hi hz0 hz1 hz2 rfl (by decide) _ _ _ rfl (hrow.alloc _) ⟨wr.heap.size, 0, none⟩ 1 1 [.int .i64 ((a + k) % n)] rfl rfl (cell_one_new _ _ _) (by simp [Value.oneCell']) (by unfold maxLen; omega) (by omega) (by simp; omega) ?_; intro v' w1 hown' hgrow _; obtain ⟨g', cap', rfl⟩ := ownsRow_succ hown')
        go_roundw
        case rel =>
          refine ⟨k + 1, g', cap', by omega, by go_num, by rw [first_succ, List.length_append]; rfl, ?_, ?_⟩
          · rw [first_succ, List.length_append, List.map_append]; exact hown'
          · exact (hB.alloc hszr _).grown hgrow (by simp; omega) (fun j e => (World.ownsRow.lt hrow j e).1)
        case measure => simp [intOf]; omega
      · obtain rfl : k = M := by omega
        have hk1 : b - a ≤ (k : Int) := by have := HM.out; omega
        go_wp2
        go_ret
        exact ⟨_, _, rfl, hrow, hB⟩

end Go.Proofs.YtkkcdahfiegopaaDoor.Pl
