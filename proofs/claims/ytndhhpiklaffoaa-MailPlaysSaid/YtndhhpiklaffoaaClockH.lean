/-
  The clock's Go: its contract.
-/
import Derived.Test.YtndhhpiklaffoaaClockG
namespace Go.Proofs.Ytndhhpiklaffoaa.Clock
open Go.RowKit
open Mail (Turn ret_int ret_bool info_int ownsRow_base)
set_option linter.unusedVariables false

/-- The numbers of those that are due, in their order; the others. -/
def rungL (now : Int) (L : List (Int × Int)) : List Int := (L.takeWhile fun p => decide (p.1 ≤ now)).map (·.2)
def restL (now : Int) (L : List (Int × Int)) : List (Int × Int) := L.dropWhile fun p => decide (p.1 ≤ now)
theorem due_split {L : List (Int × Int)} {now : Int} {k : Nat} (hk : k ≤ L.length) (h1 : ∀ j, j < k → (L.getD j (0, 0)).1 ≤ now) (h2 : k < L.length → ¬ (L.getD k (0, 0)).1 ≤ now) :
    rungL now L = (L.take k).map (·.2) ∧ restL now L = L.drop k := by
  unfold rungL restL
  induction L generalizing k with
  | nil => simp
  | cons q L ih =>
    match k with
    | 0 =>
      have : ¬ q.1 ≤ now := by simpa using h2 (by simp)
      simp [this]
    | k + 1 =>
      have hq : q.1 ≤ now := by simpa using h1 0 (by omega)
      have := ih (k := k) (by simpa using hk) (fun j hj => by simpa using h1 (j + 1) (by omega)) (fun h => by simpa using h2 (by simpa using h))
      simp [hq, this]
theorem WF.go {now now' : Int} {L : List (Int × Int)} (h : WF now L) (h0 : 0 ≤ now') (h1 : now' ≤ MT) : WF now' (restL now' L) :=
  ⟨h0, h1, fun p hp => h.due p ((List.dropWhile_sublist _).subset hp), h.sorted.sublist (List.dropWhile_sublist _), h.ids.sublist (List.dropWhile_sublist _)⟩
def GoRel (w : World) (b : Nat) (now : Int) (L : List (Int × Int)) (v i : Value) (wr : World) : Prop :=
  ∃ k, k ≤ L.length ∧ i = .int .i64 (k : Nat) ∧ (∀ j, j < k → (L.getD j (0, 0)).1 ≤ now) ∧ wr.ownsRow w.heap.size 3 1 v k (((L.take k).map (·.2)).map (Value.int .i64)) ∧ ClockAt wr b now L ∧ Turn (At b) w wr
/-- What a step of time answers, and leaves. -/
def GoPost (w : World) (b : Nat) (now : Int) (L : List (Int × Int)) (e : Ending) (w' : World) : Prop :=
  ∃ v, e = .returned v ∧ w'.ownsRow w.heap.size 3 1 v (rungL now L).length ((rungL now L).map (Value.int .i64)) ∧ ClockAt w' b now (restL now L) ∧ Turn (At b) w w'
theorem row_turn {w w' : World} {b base : Nat} {v : Value} {n : Nat} {xs : List Value} (h : w.ownsRow base 3 1 v n xs) (hb : b < base) (t : Turn (At b) w w') : w'.ownsRow base 3 1 v n xs := by
  refine ⟨h.1, ?_⟩
  rcases h.2 with h0 | ⟨g, cap, cur, rfl, hg, hgb, rest⟩
  · exact .inl h0
  · exact .inr ⟨g, cap, cur, rfl, hg, (t.block g (lt_of_block hgb) (by unfold At; omega)).trans hgb, rest⟩
theorem clock_grown {w w' : World} {b base : Nat} {now : Int} {L : List (Int × Int)} {v : Value} {n : Nat} {xs : List Value} (h : ClockAt w b now L) (hr : w.ownsRow base 3 1 v n xs) (hb : b < base) (hg : w.grownBy w' v.ownBlock) : ClockAt w' b now L :=
  h.keep (hg.block b h.lt fun e => by
    rcases hr.2 with ⟨rfl, _⟩ | ⟨g, cap, cur, rfl, hg', _, _⟩
    · cases e
    · obtain rfl : b = g := by simpa [Value.ownBlock] using e
      omega)
theorem turn_grown {w w1 w' : World} {b : Nat} {v : Value} {n : Nat} {xs : List Value} (h : Turn (At b) w w1) (hr : w1.ownsRow w.heap.size 3 1 v n xs) (hg : w1.grownBy w' v.ownBlock) : Turn (At b) w w' :=
  ⟨hg.os.trans h.os, hg.tape.trans h.tape, hg.output.trans h.output, Nat.le_trans h.size hg.size, fun k hk hS => (hg.block k (Nat.lt_of_lt_of_le hk h.size) fun e => by
    rcases hr.2 with ⟨rfl, _⟩ | ⟨g, cap, cur, rfl, hg', _, _⟩
    · cases e
    · obtain rfl : k = g := by simpa [Value.ownBlock] using e
      omega).trans (h.block k hk hS)⟩
/-- The end of a step of time: k alarms are due. -/
theorem go_end {b : Nat} {now : Int} {L : List (Int × Int)} {w W w' : World} {v : Value} {k : Nat} (hk : k ≤ L.length) (h1 : ∀ j, j < k → (L.getD j (0, 0)).1 ≤ now) (h2 : k < L.length → ¬ (L.getD k (0, 0)).1 ≤ now)
    (hown : W.ownsRow w.heap.size 3 1 v k (((L.take k).map (·.2)).map (Value.int .i64))) (hT : Turn (At b) w W) (hbw : b < w.heap.size) (hc : ClockAt w' b now (L.take 0 ++ L.drop k)) (ht : Turn (At b) W w') : GoPost w b now L (.returned v) w' := by
  obtain ⟨e1, e2⟩ := due_split hk h1 h2
  refine ⟨v, rfl, ?_, by rw [e2]; simpa using hc, hT.trans ht⟩
  rw [e1, show ((L.take k).map (·.2)).length = k by simp; omega]
  exact row_turn hown hbw ht
theorem own_lit {w : World} {base : Nat} {v : Value} {k : Nat} {xs : List Value} (h : w.ownsRow base 3 1 v k xs) : ∃ a cap, v = .slice a k cap := by
  rcases h.2 with ⟨rfl, rfl⟩ | ⟨g, cap, _, rfl, _⟩
  · exact ⟨_, _, rfl⟩
  · exact ⟨_, _, rfl⟩
set_option maxRecDepth 100000 in
set_option maxHeartbeats 2000000 in
theorem go_at {b : Nat} {now : Int} {L : List (Int × Int)} (t m : Int) (w : World) (h : ClockAt w b now L) (wf : WF now L) (hm : t < 0 ∧ m = 0 ∨ t = 0 ∧ m = 0 ∨ 0 < t ∧ m = t) :
    Calls Try.prog 32 #[.pointer (some ⟨b, 0, none⟩), .int .i64 t] w (GoPost w b (lateI now m) L) := by
  obtain ⟨i0, hi, hz0, hz1, hz2⟩ := info_parts info_int
  have hm0 : 0 ≤ m := by omega
  have hbw := h.lt
  have hl := h.le
  have HH := Lib.hid h
  have HW := Lib.hid wf
  obtain ⟨nw, hnw⟩ : ∃ nw, nw = lateI now m := ⟨_, rfl⟩
  rw [← hnw]
  have HNW := Lib.hid hnw
  obtain ⟨n, hn⟩ : ∃ n, n = L.length := ⟨_, rfl⟩
  rw [← hn] at hl
  have HN := Lib.hid hn
  clear hnw hn h wf
  rcases hm with ⟨ht, rfl⟩ | ⟨rfl, rfl⟩ | ⟨ht, rfl⟩
  all_goals
    go_enter Try.func32, Try.ntmps32
    go_wp2_with fail
    refine (later_any _ HH.out HW.out.n0 HW.out.n1 hm0).mono ?_
    rintro e w1 ⟨rfl, n1, rfl⟩
    rw [← HNW.out]
    obtain ⟨M, hM, _, hraw⟩ := HH.out
    have hc0 : (w.drewN n1).cell? ⟨b, 0, none⟩ = some (.int .i64 now) := HH.out.cellNow
    have hf0 : (w.drewN n1).frozen? ⟨b, 0, none⟩ = false := HH.out.frozen 0
    have hr1 := heap_set (show (w.drewN n1).heap[b]? = _ from hraw) 0 (.int .i64 nw)
    rw [clk_now] at hr1
    have hC1 : ClockAt ((w.drewN n1).setCell ⟨b, 0, none⟩ (.int .i64 nw)) b nw L := ⟨M, hM, HH.out.le, hr1⟩
    have hT1 : Turn (At b) w ((w.drewN n1).setCell ⟨b, 0, none⟩ (.int .i64 nw)) := ⟨rfl, rfl, rfl, by show w.heap.size ≤ ((w.drewN n1).setCell _ _).heap.size; simp, fun q hq hS => Below.heap_setCell _ _ _ _ (fun e => hS e)⟩
    have HC1 := Lib.hid hC1
    have HT1 := Lib.hid hT1
    clear hM hraw hr1 hC1 hT1
    go_wp2_with fail
    refine (there_any HC1.out).mono ?_
    rintro e w2 ⟨rfl, n2, rfl⟩
    rw [← HN.out]
    have hC2 : ClockAt (((w.drewN n1).setCell ⟨b, 0, none⟩ (.int .i64 nw)).drewN n2) b nw L := HC1.out.drewN n2
    have hT2 : Turn (At b) w (((w.drewN n1).setCell ⟨b, 0, none⟩ (.int .i64 nw)).drewN n2) := HT1.out.trans ⟨rfl, rfl, rfl, Nat.le_refl _, fun _ _ _ => rfl⟩
    obtain ⟨W, hW⟩ : ∃ W, W = ((w.drewN n1).setCell ⟨b, 0, none⟩ (.int .i64 nw)).drewN n2 := ⟨_, rfl⟩
    rw [← hW] at hC2 hT2 ⊢
    have HC2 := Lib.hid hC2
    have HT2 := Lib.hid hT2
    clear hW hC2 hT2 HC1 HT1 hc0 hf0
    go_wp2
    go_loopw [5, 18] (fun v i wr => GoRel w b nw L v i wr) (fun _ i _ => n - (intOf i).toNat)
    case atStart => exact ⟨0, by omega, rfl, fun j hj => absurd hj (by omega), ⟨rfl, .inl ⟨rfl, rfl⟩⟩, HC2.out, HT2.out⟩
    case round =>
      obtain ⟨k, hk, rfl, hdue, hown, hC, hT⟩ := hrel
      rw [← HN.out] at hk
      have HD := Lib.hid hdue
      have HT := Lib.hid hT
      have HC := Lib.hid hC
      have hwz := hT.size
      clear hdue hT
      by_cases hkn : k < n
      · have d1 := hC.cellDue k (by have := HN.out; omega)
        have d2 := hC.cellId k (by have := HN.out; omega)
        obtain ⟨p, hp⟩ : ∃ p, p = L.getD k (0, 0) := ⟨_, rfl⟩
        rw [← hp] at d1 d2
        have HP := Lib.hid hp
        obtain ⟨p1, p2⟩ := p
        clear hp
        have ha : Below wr.heap.size wr (wr.alloc (.cells #[.int .i64 p1, .int .i64 p2] 54)) := (Below.refl _ wr).alloc (Nat.le_refl _) _
        have hCa := hC.below ha
        have dn := hCa.cellNow
        have HCa := Lib.hid hCa
        have HA := Lib.hid ha
        have hkL : k < L.length := by have := HN.out; omega
        clear hC hCa ha
        by_cases hd : p1 ≤ nw
        · have hnd : ¬ nw < p1 := by omega
          go_wp2
          go_quiet (fail)
          have hownq := hown.alloc (.cells #[.int .i64 p1, .int .i64 p2] 54)
          have hCq : ClockAt ((wr.alloc (.cells #[.int .i64 p1, .int .i64 p2] 54)).drewN nq) b nw L := HCa.out.drewN nq
          have hTq : Turn (At b) w ((wr.alloc (.cells #[.int .i64 p1, .int .i64 p2] 54)).drewN nq) := HT.out.trans (Mail.Turn.of_below (below_drewN HA.out nq))
          have hownq' : ((wr.alloc (.cells #[.int .i64 p1, .int .i64 p2] 54)).drewN nq).ownsRow w.heap.size 3 1 _ k (((L.take k).map (·.2)).map (Value.int .i64)) := hownq
          obtain ⟨wq, hwq⟩ : ∃ wq, wq = (wr.alloc (.cells #[.int .i64 p1, .int .i64 p2] 54)).drewN nq := ⟨_, rfl⟩
          have hb2 : wq.cell? ⟨wr.heap.size, 1, none⟩ = some (.int .i64 p2) := by rw [hwq]; simp [go_sem]
          have hwqz : w.heap.size ≤ wq.heap.size := by rw [hwq]; simp; omega
          rw [← hwq] at hCq hTq hownq' ⊢
          have HCq := Lib.hid hCq
          have HTq := Lib.hid hTq
          clear hwq hCq hTq hownq dn hown
          go_wp2_with (at_builtin; refine wpList_append_own _ rfl _ _ 27 rfl w.heap.size 3 i0 (.int .i64 0) 1 8 Try.underlying27 hi hz0 hz1 hz2 rfl (by decide) _ _ _ rfl (hownq'.alloc _) ⟨wq.heap.size, 0, none⟩ 1 1 [.int .i64 p2] rfl rfl (Go.cell_one_new _ _ _) (by simp [Value.oneCell']) (by unfold maxLen; omega) (by omega) (by simp; omega) ?_; intro v' w5 hown' hgrow _; have hC5 := clock_grown (HCq.out.below ((Below.refl _ wq).alloc (Nat.le_refl _) (.cells #[.int .i64 p2] 3))) (hownq'.alloc _) hbw hgrow; have hT5 := turn_grown (HTq.out.trans (Mail.Turn.of_below ((Below.refl _ wq).alloc (Nat.le_refl _) (.cells #[.int .i64 p2] 3)))) (hownq'.alloc _) hgrow; have HC5 := Lib.hid hC5; have HT5 := Lib.hid hT5; clear hC5 hT5 hgrow hownq')
          go_roundw
          case rel =>
            refine ⟨k + 1, by omega, by go_num, fun j hj => ?_, ?_, HC5.out, HT5.out⟩
            · by_cases hjk : j < k
              · exact HD.out j hjk
              · obtain rfl : j = k := by omega
                rw [← HP.out]; exact hd
            · have ht : L.take (k + 1) = L.take k ++ [(p1, p2)] := by
                rw [List.take_succ_eq_append_getElem hkL, HP.out]
                simp [List.getD, hkL]
              rw [ht]
              simpa using hown'
          case measure => simp [intOf]; omega
        · have hnd : nw < p1 := by omega
          go_wp2
          go_quiet (fail)
          obtain ⟨va, vc, rfl⟩ := own_lit hown
          have hownq : ((wr.alloc (.cells #[.int .i64 p1, .int .i64 p2] 54)).drewN nq).ownsRow w.heap.size 3 1 (.slice va k vc) k (((L.take k).map (·.2)).map (Value.int .i64)) := hown.alloc _
          have hCq : ClockAt ((wr.alloc (.cells #[.int .i64 p1, .int .i64 p2] 54)).drewN nq) b nw L := HCa.out.drewN nq
          have hTq : Turn (At b) w ((wr.alloc (.cells #[.int .i64 p1, .int .i64 p2] 54)).drewN nq) := HT.out.trans (Mail.Turn.of_below (below_drewN HA.out nq))
          obtain ⟨wq, hwq⟩ : ∃ wq, wq = (wr.alloc (.cells #[.int .i64 p1, .int .i64 p2] 54)).drewN nq := ⟨_, rfl⟩
          rw [← hwq] at hCq hTq hownq ⊢
          have HCq := Lib.hid hCq
          have HTq := Lib.hid hTq
          have HOq := Lib.hid hownq
          clear hwq hCq hTq hownq hown dn
          go_wp2_with fail
          refine (cut_any 0 k wq HCq.out (by omega) (by omega)).mono ?_
          rintro e w9 ⟨rfl, hc9, ht9⟩
          go_wp2
          go_ret
          exact go_end (by omega) HD.out (fun _ => by rw [← HP.out]; exact Int.not_le.2 hd) HOq.out HTq.out hbw hc9 ht9
      · obtain rfl : k = n := by omega
        obtain ⟨va, vc, rfl⟩ := own_lit hown
        have HO := Lib.hid hown
        clear hown hC
        go_wp2_with fail
        refine (cut_any 0 k wr HC.out (by omega) (by have := HN.out; omega)).mono ?_
        rintro e w9 ⟨rfl, hc9, ht9⟩
        go_wp2
        go_ret
        exact go_end (by have := HN.out; omega) HD.out (fun h => by have := HN.out; omega) HO.out HT.out hbw hc9 ht9
/-- A step of time. -/
def stepI (now t : Int) : Int := lateI now (max t 0)
theorem go_any {b : Nat} {now : Int} {L : List (Int × Int)} (t : Int) (w : World) (h : ClockAt w b now L) (wf : WF now L) :
    Calls Try.prog 32 #[.pointer (some ⟨b, 0, none⟩), .int .i64 t] w (GoPost w b (stepI now t) L) :=
  go_at t (max t 0) w h wf (by omega)
end Go.Proofs.Ytndhhpiklaffoaa.Clock
