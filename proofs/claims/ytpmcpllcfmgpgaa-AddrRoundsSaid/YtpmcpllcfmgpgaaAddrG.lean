/-
  Contracts of the references' SameInts and Between: whether two rows of numbers are the same; the places between two as a row.
-/
import Derived.Test.YtpmcpllcfmgpgaaAddrF
namespace Go.Proofs.Ytpmcpllcfmgpgaa
open Go.RowKit

/-- A slice value that reads as a row of numbers of kind k. -/
def RowOf (k : IntKind) (w : World) (v : Value) (L : List Int) : Prop :=
  ∃ a cap, v = .slice a L.length cap ∧ (L ≠ [] → ∃ b off, a = some ⟨b, off, none⟩ ∧ ∀ i, i < L.length → w.cell? ⟨b, off + i, none⟩ = some (.int k (L[i]?.getD 0)))
theorem RowOf.of_owns {k : IntKind} {w : World} {base : Nat} {e : TypeId} {v : Value} {L : List Int} (h : w.ownsRow base e 1 v L.length (L.map (Value.int k))) : RowOf k w v L := by
  rcases h.2 with ⟨rfl, h0⟩ | ⟨g, cap, cur, rfl, _, hg, _, _, _, _⟩
  · exact ⟨none, 0, by rw [h0], fun hne => absurd (List.eq_nil_of_length_eq_zero h0) hne⟩
  · refine ⟨_, cap, rfl, fun _ => ⟨g, 0, rfl, fun i hi => ?_⟩⟩
    have := World.ownsRow.cells h (g := g) rfl i (.int k (L[i]?.getD 0)) (by simp [hi])
    rw [show (0 : Nat) + i = i from Nat.zero_add i]
    by_cases hi0 : i = 0
    · subst hi0; simpa [Addr.add] using this
    · simpa [Addr.add, hi0] using this
theorem RowOf.kept {k : IntKind} {w w' : World} {v : Value} {L : List Int} (h : RowOf k w v L) (hc : ∀ b o x, w.cell? ⟨b, o, none⟩ = some x → w'.cell? ⟨b, o, none⟩ = some x) : RowOf k w' v L := by
  obtain ⟨a, cap, rfl, hr⟩ := h
  exact ⟨a, cap, rfl, fun hne => by obtain ⟨b, off, rfl, hi⟩ := hr hne; exact ⟨b, off, rfl, fun i h => hc _ _ _ (hi i h)⟩⟩
theorem RowOf.below {k : IntKind} {w w' : World} {v : Value} {L : List Int} (h : RowOf k w v L) (hb : Below w.heap.size w w') : RowOf k w' v L :=
  h.kept fun _ o _ hx => (hb.cell (p := ⟨_, o, none⟩) (World.block_lt_of_cell? w ⟨_, o, none⟩ hx)).trans hx
theorem take_same (A B : List Int) (k : Nat) (hA : k < A.length) (hB : k < B.length) (h : A.take k = B.take k) : A.take (k + 1) = B.take (k + 1) ↔ A[k]?.getD 0 = B[k]?.getD 0 := by
  have e : A[k]?.getD 0 = A[k] ∧ B[k]?.getD 0 = B[k] := ⟨by simp [hA], by simp [hB]⟩
  rw [e.1, e.2, List.take_succ_eq_append_getElem hA, List.take_succ_eq_append_getElem hB, h]
  constructor
  · intro h'; simpa using (List.append_cancel_left h')
  · intro h'; rw [h']
theorem same_stop (A B : List Int) (k : Nat) (hne : ¬ A[k]?.getD 0 = B[k]?.getD 0) : decide (A = B) = false := by
  rw [decide_eq_false_iff_not]
  rintro rfl
  exact hne rfl
theorem same_all (A B : List Int) (n : Nat) (hA : A.length = n) (hB : B.length = n) (h : A.take n = B.take n) : decide (A = B) = true := by
  rw [decide_eq_true_iff]
  rw [List.take_of_length_le (by omega), List.take_of_length_le (by omega)] at h
  exact h

set_option maxHeartbeats 1000000 in
theorem sameInts_any (u v : Value) (A B : List Int) (w : World) (hA : RowOf .i64 w u A) (hB : RowOf .i64 w v B) (hm : A.length ≤ maxLen) :
    Calls Try.prog 49 #[u, v] w fun e w' => e = .returned (.bool (decide (A = B))) ∧ ∃ n, w' = w.drewN n := by
  obtain ⟨a, cap, rfl, hra⟩ := hA
  obtain ⟨b, cap', rfl, hrb⟩ := hB
  unfold maxLen at hm
  by_cases hl : A.length = B.length
  · obtain ⟨n, hn⟩ : ∃ n, n = A.length := ⟨_, rfl⟩
    have hA' := Lib.hid hn.symm
    have hB' : Hid (B.length = n) := by rw [hn, hl]; exact rfl
    rw [← hl, ← hn]
    rw [← hl, ← hn] at hrb
    rw [← hn] at hm hra
    clear hl hn
    by_cases h0 : n = 0
    · have hd : decide (A = B) = true := same_all A B 0 (by rw [hA'.out, h0]) (by rw [hB'.out, h0]) (by simp)
      rw [hd]
      clear hd
      subst h0
      go_enter Try.func49, Try.ntmps49
      go_wp2
      go_loop [5] (fun i => i = .int .i64 0) (fun _ => 0)
      case atStart => rfl
      case round =>
        obtain rfl := hrel
        go_wp2
        go_ret
        exact ⟨rfl, 0, rfl⟩
    · obtain ⟨g, off, rfl, hga⟩ := hra (fun e => h0 (by rw [← hA'.out, e]; rfl))
      obtain ⟨g', off', rfl, hgb⟩ := hrb (fun e => h0 (by rw [← hB'.out, e]; rfl))
      clear hra hrb
      have HA := Lib.hid hga
      have HB := Lib.hid hgb
      clear hga hgb
      go_enter Try.func49, Try.ntmps49
      go_wp2
      go_loopw [5] (fun i wr => ∃ k j : Nat, k ≤ n ∧ i = .int .i64 k ∧ Hid (A.take k = B.take k) ∧ wr = w.drewN j) (fun i _ => n - (intOf i).toNat)
      case atStart => exact ⟨0, 0, Nat.zero_le _, rfl, rfl, rfl⟩
      case round =>
        obtain ⟨k, j, hk, rfl, HT, rfl⟩ := hrel
        by_cases hlt : k < n
        · have ca : w.cell? ⟨g, off + k, none⟩ = some (.int .i64 (A[k]?.getD 0)) := HA.out k hlt
          have cb : w.cell? ⟨g', off' + k, none⟩ = some (.int .i64 (B[k]?.getD 0)) := HB.out k hlt
          obtain ⟨x, hx⟩ : ∃ x, x = A[k]?.getD 0 := ⟨_, rfl⟩
          obtain ⟨y, hy⟩ : ∃ y, y = B[k]?.getD 0 := ⟨_, rfl⟩
          rw [← hx] at ca
          rw [← hy] at cb
          have HX := Lib.hid hx
          have HY := Lib.hid hy
          clear hx hy
          have hkn : (k : Int) < (n : Int) := by omega
          by_cases hxy : x = y
          · have ht : (x != y) = false := by simp [hxy]
            have HE := Lib.hid hxy
            clear hxy
            go_wp2
            go_quiet (fail)
            go_wp2
            go_roundw
            case rel => exact ⟨k + 1, _, by omega, by go_num, (take_same A B k (by rw [hA'.out]; exact hlt) (by rw [hB'.out]; exact hlt) HT.out).2 (by rw [← HX.out, ← HY.out]; exact HE.out), by first | rfl | (simp; done)⟩
            case measure => simp [intOf]; omega
          · have ht : (x != y) = true := by simp [hxy]
            have HE := Lib.hid hxy
            clear hxy
            go_wp2
            go_quiet (fail)
            go_wp2
            go_ret
            exact ⟨ret_bool (same_stop A B k (by rw [← HX.out, ← HY.out]; exact HE.out)).symm, j + nq, by simp⟩
        · obtain rfl : k = n := by omega
          go_wp2
          go_ret
          exact ⟨ret_bool (same_all A B k hA'.out hB'.out HT.out).symm, _, rfl⟩
  · have hd : decide (A = B) = false := by rw [decide_eq_false_iff_not]; rintro rfl; exact hl rfl
    rw [hd]
    have hl' : ((A.length : Int) != (B.length : Int)) = true := by simp; omega
    go_enter Try.func49, Try.ntmps49
    go_wp2
    go_ret
    exact ⟨rfl, 0, rfl⟩

theorem betw_empty (n a b : Int) (h : ¬ (0 ≤ a ∧ a < n ∧ 0 ≤ b ∧ b < n)) : betw n a b = [] := by
  unfold betw; rw [if_neg (by unfold inn; simp only [decide_eq_true_eq]; exact h)]
theorem betw_all (n a b : Int) (h : 0 ≤ a ∧ a < n ∧ 0 ≤ b ∧ b < n) : betw n a b = first n a (many n a b) := by
  unfold betw; rw [if_pos (by unfold inn; simp only [decide_eq_true_eq]; exact h)]
/-- Behind the first lines: a row of no cells, and the number of cells. -/
theorem row_start (w w' : World) (o : Obj) (hb : Below ((w.alloc o).alloc (.cells #[] 3)).heap.size ((w.alloc o).alloc (.cells #[] 3)) w') :
    w'.ownsRow w.heap.size 3 1 (.slice (some ⟨w.heap.size + 1, 0, none⟩) 0 0) 0 [] ∧ Below w.heap.size w w' := by
  refine ⟨World.ownsRow.kept (row := none) ⟨by simp, .inr ⟨w.heap.size + 1, 0, #[], rfl, by omega, ?_, by simp, by simp [maxLen], by simp, by simp⟩⟩ (grown_of_below hb) (by simp [Value.ownBlock]), ?_⟩
  · have := World.alloc_heap_new (w.alloc o) (.cells #[] 3)
    rwa [World.size_alloc] at this
  · exact (((Below.refl _ w).alloc (Nat.le_refl _) _).alloc (by rw [World.size_alloc]; omega) _).trans (hb.mono (by rw [World.size_alloc, World.size_alloc]; omega))

/-- What the loop knows between two rounds. -/
def RBrel (w : World) (n a : Int) (M : Nat) (v i : Value) (wr : World) : Prop :=
  ∃ k g cap : Nat, k ≤ M ∧ i = .int .i64 k ∧ v = .slice (some ⟨g, 0, none⟩) (first n a k).length cap ∧ wr.ownsRow w.heap.size 3 1 (.slice (some ⟨g, 0, none⟩) (first n a k).length cap) (first n a k).length ((first n a k).map (Value.int .i64)) ∧ Below w.heap.size w wr

set_option maxHeartbeats 1000000 in
theorem rbetween_any (r c a b n : Int) (w : World) (hn : Hid (cells r c = n)) (n0 : 0 ≤ n) (n1 : n ≤ 4096) :
    Calls Try.prog 45 #[.agg #[.int .i64 r, .int .i64 c], .int .i64 a, .int .i64 b] w fun e W' =>
      ∃ g cap, e = .returned (.slice (some ⟨g, 0, none⟩) (betw n a b).length cap) ∧ W'.ownsRow w.heap.size 3 1 (.slice (some ⟨g, 0, none⟩) (betw n a b).length cap) (betw n a b).length ((betw n a b).map (Value.int .i64)) ∧ Below w.heap.size w W' := by
  by_cases g0 : a < 0
  · go_enter Try.func45, Try.ntmps45
    go_wp2_with (go_at_call 41; refine (rcells_is _ _ _ _ hn.out).mono ?_; rintro e w' ⟨rfl, hb⟩)
    go_ret
    rw [betw_empty n a b (by omega)]
    exact ⟨_, _, rfl, row_start w w' _ hb⟩
  by_cases g1 : n ≤ a
  · go_enter Try.func45, Try.ntmps45
    go_wp2_with (go_at_call 41; refine (rcells_is _ _ _ _ hn.out).mono ?_; rintro e w' ⟨rfl, hb⟩)
    go_ret
    rw [betw_empty n a b (by omega)]
    exact ⟨_, _, rfl, row_start w w' _ hb⟩
  by_cases g2 : b < 0
  · go_enter Try.func45, Try.ntmps45
    go_wp2_with (go_at_call 41; refine (rcells_is _ _ _ _ hn.out).mono ?_; rintro e w' ⟨rfl, hb⟩)
    go_ret
    rw [betw_empty n a b (by omega)]
    exact ⟨_, _, rfl, row_start w w' _ hb⟩
  by_cases g3 : n ≤ b
  · go_enter Try.func45, Try.ntmps45
    go_wp2_with (go_at_call 41; refine (rcells_is _ _ _ _ hn.out).mono ?_; rintro e w' ⟨rfl, hb⟩)
    go_ret
    rw [betw_empty n a b (by omega)]
    exact ⟨_, _, rfl, row_start w w' _ hb⟩
  obtain ⟨i0, hi, hz0, hz1, hz2⟩ := info_parts info_int
  have hin : 0 ≤ a ∧ a < n ∧ 0 ≤ b ∧ b < n := by omega
  have hbe := betw_all n a b hin
  rw [hbe]
  have hmb := many_bd n a b (by unfold inn; simp only [decide_eq_true_eq]; exact hin)
  obtain ⟨M, hM⟩ : ∃ M, M = many n a b := ⟨_, rfl⟩
  rw [← hM] at hmb ⊢
  have hM2 : (M : Int) = if b - a ≤ 0 then b - a + n else b - a := by rw [hM]; unfold many; split <;> omega
  obtain ⟨m1, m2⟩ := hmb
  clear hM hbe hin
  by_cases hc : b - a ≤ 0
  · rw [if_pos hc] at hM2
    have HM := Lib.hid hM2
    clear hM2
    go_enter Try.func45, Try.ntmps45
    go_wp2_with (go_at_call 41; refine (rcells_is _ _ _ _ hn.out).mono ?_; rintro e w' ⟨rfl, hb⟩)
    have hst := row_start w w' _ hb
    have hsz : w.heap.size ≤ w'.heap.size := hst.2.size
    have HB := Lib.hid hb
    clear hb
    go_loopw [7, 10] (RBrel w n a M) (fun _ i _ => M - (intOf i).toNat)
    case atStart =>
      exact ⟨0, _, _, by omega, rfl, rfl, hst⟩
    case round =>
      obtain ⟨k, g, cap, hk, rfl, rfl, hrow, hB⟩ := hrel
      have hszr : w.heap.size ≤ wr.heap.size := hB.size
      by_cases hlt : k < M
      · have hk1 : (k : Int) < b - a + n := by have := HM.out; omega
        have hfl : (first n a k).length = k := first_length n a k
        have hfl1 : (first n a k).length + 1 ≤ 4096 := by omega
        clear hfl
        have ha0 : 0 ≤ a + k := by omega
        have ha1 : a + k ≤ 10000 := by omega
        go_wp2_with (at_builtin; refine wpList_append_own _ rfl _ _ 62 rfl w.heap.size 3 i0 (.int .i64 0) 1 8 Try.underlying62 hi hz0 hz1 hz2 rfl (by decide) _ _ _ rfl (hrow.alloc _) ⟨wr.heap.size, 0, none⟩ 1 1 [.int .i64 ((a + k) % n)] rfl rfl (cell_one_new _ _ _) (by simp [Value.oneCell']) (by unfold maxLen; omega) (by omega) (by simp; omega) ?_; intro v' w1 hown' hgrow _; obtain ⟨g', cap', rfl⟩ := ownsRow_succ hown')
        go_roundw
        case rel =>
          refine ⟨k + 1, g', cap', by omega, by go_num, by rw [first_succ, List.length_append]; rfl, ?_, ?_⟩
          · rw [first_succ, List.length_append, List.map_append]; exact hown'
          · exact (hB.alloc hszr _).grown hgrow (by simp; omega) (fun j e => (World.ownsRow.lt hrow j e).1)
        case measure => simp [intOf]; omega
      · obtain rfl : k = M := by omega
        have hk1 : b - a + n ≤ (k : Int) := by have := HM.out; omega
        go_wp2
        go_ret
        exact ⟨_, _, rfl, hrow, hB⟩
  · rw [if_neg hc] at hM2
    have HM := Lib.hid hM2
    clear hM2
    go_enter Try.func45, Try.ntmps45
    go_wp2_with (go_at_call 41; refine (rcells_is _ _ _ _ hn.out).mono ?_; rintro e w' ⟨rfl, hb⟩)
    have hst := row_start w w' _ hb
    have hsz : w.heap.size ≤ w'.heap.size := hst.2.size
    have HB := Lib.hid hb
    clear hb
    go_loopw [7, 10] (fun v i wr => ∃ k g cap : Nat, k ≤ M ∧ i = .int .i64 k ∧ v = .slice (some ⟨g, 0, none⟩) (first n a k).length cap ∧ wr.ownsRow w.heap.size 3 1 (.slice (some ⟨g, 0, none⟩) (first n a k).length cap) (first n a k).length ((first n a k).map (Value.int .i64)) ∧ Below w.heap.size w wr) (fun _ i _ => M - (intOf i).toNat)
    case atStart =>
      exact ⟨0, _, _, by omega, rfl, rfl, hst⟩
    case round =>
      obtain ⟨k, g, cap, hk, rfl, rfl, hrow, hB⟩ := hrel
      have hszr : w.heap.size ≤ wr.heap.size := hB.size
      by_cases hlt : k < M
      · have hk1 : (k : Int) < b - a := by have := HM.out; omega
        have hfl : (first n a k).length = k := first_length n a k
        have hfl1 : (first n a k).length + 1 ≤ 4096 := by omega
        clear hfl
        have ha0 : 0 ≤ a + k := by omega
        have ha1 : a + k ≤ 10000 := by omega
        go_wp2_with (at_builtin; refine wpList_append_own _ rfl _ _ 62 rfl w.heap.size 3 i0 (.int .i64 0) 1 8 Try.underlying62 hi hz0 hz1 hz2 rfl (by decide) _ _ _ rfl (hrow.alloc _) ⟨wr.heap.size, 0, none⟩ 1 1 [.int .i64 ((a + k) % n)] rfl rfl (cell_one_new _ _ _) (by simp [Value.oneCell']) (by unfold maxLen; omega) (by omega) (by simp; omega) ?_; intro v' w1 hown' hgrow _; obtain ⟨g', cap', rfl⟩ := ownsRow_succ hown')
        go_roundw
        case rel =>
          refine ⟨k + 1, g', cap', by omega, by go_num, by rw [first_succ, List.length_append]; rfl, ?_, ?_⟩
          · rw [first_succ, List.length_append, List.map_append]; exact hown'
          · exact (hB.alloc hszr _).grown hgrow (by simp; omega) (fun j e => (World.ownsRow.lt hrow j e).1)
        case measure => simp [intOf]; omega
      · obtain rfl : k = M := by omega
        have hk1 : b - a ≤ (k : Int) := by have := HM.out; omega
        go_wp2
        go_ret
        exact ⟨_, _, rfl, hrow, hB⟩

end Go.Proofs.Ytpmcpllcfmgpgaa
