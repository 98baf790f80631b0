/-
  The walk of ClockNexts.
-/
import Derived.Test.YtdmhjdmeelpmjaaClockNextsA
import Derived.Test.YtdmhjdmeelpmjaaOpen
namespace Go.Proofs.Ytdmhjdmeelpmjaa.Clock
open Go.RowKit
open Mail (Turn ret_int ret_bool sameInts_any RowOf ownsRow_base info_int)
set_option linter.unusedVariables false

/-- What the first loop knows: k alarms were asked for. -/
def SetRel (s n : Nat) (w : World) (i : Value) (wr : World) : Prop :=
  ∃ (k : Nat) (L : List (Int × Int)), k ≤ n ∧ i = .int .i64 k ∧ One s w wr 0 L ∧ (∀ q ∈ L, 0 ≤ q.2 ∧ q.2 < k) ∧ L.length ≤ k
/-- What the second loop knows: as many rounds as there were alarms leave none. -/
def RoundRel (s n : Nat) (w : World) (i : Value) (wr : World) : Prop :=
  ∃ (k : Nat) (now : Int) (L : List (Int × Int)), k ≤ n ∧ i = .int .i64 k ∧ One s w wr now L ∧ (∀ q ∈ L, 0 ≤ q.2 ∧ q.2 < n) ∧ (∀ q ∈ L, now ≤ q.1) ∧ L.length + k ≤ n
/-- What its inner loop knows: the numbers below j were asked. -/
def WantRel (s n : Nat) (w : World) (now nx : Int) (L : List (Int × Int)) (v i : Value) (wr : World) : Prop :=
  ∃ j : Nat, j ≤ n ∧ i = .int .i64 j ∧ One s w wr now L ∧ Rung s wr v (wantL now nx L j)

theorem same_true {s : Nat} {w W : World} {now : Int} {L : List (Int × Int)} {v u : Value} {X : List Int} (h : One s w W now L) (hx : RowOf .i64 W v X) (hy : RowOf .i64 W u X) (hm : X.length ≤ maxLen) :
    Calls Try.prog 19 #[v, u] W fun e W' => e = .returned (.bool true) ∧ One s w W' now L ∧ Turn (At s) W W' :=
  (same_one h hx hy hm).mono fun e W' ⟨he, h⟩ => ⟨by rw [he]; simp, h⟩
theorem one_grown {s : Nat} {w W w' : World} {now : Int} {L : List (Int × Int)} {v : Value} {n : Nat} {xs : List Value} (h : One s w W now L) (hr : W.ownsRow (s + 1) 3 1 v n xs) (hg : W.grownBy w' v.ownBlock) : One s w w' now L := by
  refine ⟨clock_grown h.clock hr (by omega) hg, h.wf, h.old.grown hg (by have := h.lt; omega) fun r e => ?_⟩
  rcases hr.2 with ⟨rfl, _⟩ | ⟨g, cap, cur, rfl, hg', _, _⟩
  · cases e
  · obtain rfl : r = g := by simpa [Value.ownBlock, eq_comm] using e
    omega
set_option maxRecDepth 100000 in
set_option maxHeartbeats 4000000 in
theorem clockNexts_walk (v : Value) (R : List Int) (w : World) (hv : Open.RowOf .i64 w v R) (hm : R.length ≤ maxLen) :
    Calls Try.prog 9 #[v] w fun e W' => e = .returned (.bool true) ∧ Below w.heap.size w W' := by
  have hz := (zero_of_info info_clock).1
  obtain ⟨i0, hi, hz0, hz1, hz2⟩ := info_parts info_int
  obtain ⟨a, cap, rfl, ha⟩ := hv
  obtain ⟨n, hn⟩ : ∃ n, n = R.length := ⟨_, rfl⟩
  rw [← hn] at hm ⊢
  unfold maxLen at hm
  have HA := Lib.hid ha
  have HN := Lib.hid hn
  clear ha hn
  by_cases hbig : 60 < n
  · go_enter Try.func9, Try.ntmps9
    go_wp2_with (go_at_call 26; refine (alive_any _).mono ?_; rintro e w' ⟨rfl, hb⟩)
    go_ret
    exact ⟨rfl, hb⟩
  · have hle : n ≤ 60 := by omega
    have hd : decide ((60 : Int) < (n : Int)) = false := by simp; omega
    clear hbig
    go_enter Try.func9, Try.ntmps9
    go_wp2_with (go_at_call 26; refine (alive_any _).mono ?_; rintro e w1 ⟨rfl, hb1⟩)
    have T0 := one_new w1
    obtain ⟨s, hs⟩ : ∃ s, s = w1.heap.size := ⟨_, rfl⟩
    obtain ⟨W0, hW⟩ : ∃ W0, W0 = w1.alloc (.cells (clk 0 (fun _ => (0, 0)) 0) 57) := ⟨_, rfl⟩
    rw [← hs, ← hW] at T0 ⊢
    have hsw : w.heap.size ≤ s := by rw [hs]; exact hb1.size
    have HT0 := Lib.hid T0
    have HB1 := Lib.hid hb1
    clear hd hW T0 hb1 hs
    go_loopw [19] (fun i wr => SetRel s n w1 i wr) (fun i _ => n - (intOf i).toNat)
    case atStart => exact ⟨0, [], by omega, rfl, HT0.out, by simp, by simp⟩
    case round =>
      obtain ⟨k, L, hk, rfl, T, hid, hlen⟩ := hrel
      have HT := Lib.hid T
      have HID := Lib.hid hid
      have HL := Lib.hid hlen
      clear T hid hlen HT0
      by_cases hkn : k < n
      · obtain ⟨g, off, rfl, hcells⟩ := HA.out (by intro e; have := HN.out; rw [e] at this; simp at this; omega)
        obtain ⟨x, hx⟩ : ∃ x, x = R[k]?.getD 0 := ⟨_, rfl⟩
        have hxk := hcells k (by have := HN.out; omega)
        rw [← hx] at hxk
        have hbw := World.block_lt_of_cell? w _ hxk
        have dx := ((HB1.out.trans (HT.out.old.mono hsw)).cell (p := ⟨g, off + k, none⟩) hbw).trans hxk
        clear hcells hx hxk hbw
        go_wp2_with fail
        refine (set_any _ _ HT.out.clock HT.out.wf).mono ?_
        rintro e w2 ⟨rfl, c2, u2⟩
        obtain ⟨y, hy⟩ : ∃ y : Int, putA 0 L k y = putA 0 L k y ∧ ClockAt w2 s 0 (putA 0 L k y) := ⟨_, rfl, c2⟩
        have T2 := HT.out.turn hy.2 (HT.out.wf.put _ _) u2
        have HT2 := Lib.hid T2
        clear hy c2 T2 u2 dx
        go_wp2
        go_roundw
        case rel =>
          refine ⟨k + 1, _, by omega, by go_num, HT2.out, ?_, by have := putA_length 0 L k y; have := HL.out; omega⟩
          intro q hq
          rcases mem_putA hq with hq | ⟨rfl, _⟩
          · have := HID.out q hq; omega
          · show (0 : Int) ≤ k ∧ (k : Int) < _; omega
        case measure => simp [intOf]; omega
      · obtain rfl : k = n := by omega
        go_wp2
        go_loopw [31] (fun i wr => RoundRel s k w1 i wr) (fun i _ => k - (intOf i).toNat)
        case atStart => exact ⟨0, 0, L, by omega, rfl, HT.out, HID.out, fun q hq => (HT.out.wf.due q hq).1, HL.out⟩
        case round =>
          obtain ⟨r, now, L2, hr, rfl, T, hid, hnow, hlen⟩ := hrel
          have HT := Lib.hid T
          have HID := Lib.hid hid
          have HNOW := Lib.hid hnow
          have HL := Lib.hid hlen
          clear T hid hlen hnow
          by_cases hrn : r < k
          · cases L2 with
            | nil =>
              go_wp2_with fail
              refine (next_none HT.out.clock).mono ?_
              rintro e W' ⟨rfl, rfl⟩
              go_wp2_with fail
              refine (len_any HT.out.clock).mono ?_
              rintro e W' ⟨rfl, rfl⟩
              go_wp2
              go_ret
              exact ⟨by simp, HB1.out.trans (HT.out.old.mono hsw)⟩
            | cons p L3 =>
              have hp := HT.out.wf.due p (by simp)
              have hn0 := HT.out.wf.n0
              have hn1 := HT.out.wf.n1
              have hnp := HNOW.out p (by simp)
              unfold MT at hp hn1
              obtain ⟨hp0, hp1⟩ := hp
              by_cases hgt : now < p.1
              case' pos =>
                have hst : stepI now (p.1 - now - 1) = p.1 - 1 := by unfold stepI lateI; omega
                obtain ⟨hq1, hq2⟩ := quiet_before (now := p.1 - 1) HT.out.wf.sorted (by omega)
                have HGO := Lib.hid (go_one (p.1 - now - 1) (p.1 - 1) [] (p :: L3) HT.out hst hq1 hq2)
                clear hst hq1 hq2
                go_wp2_with fail
                refine (next_some HT.out.clock).mono ?_
                rintro e W' ⟨rfl, rfl⟩
                go_wp2_with fail
                refine (now_any HT.out.clock).mono ?_
                rintro e W' ⟨rfl, rfl⟩
                go_wp2_with fail
                refine (now_any HT.out.clock).mono ?_
                rintro e W' ⟨rfl, rfl⟩
                go_wp2_with fail
                refine HGO.out.mono ?_
                rintro e w2 ⟨v2, rfl, R2, T2, _⟩
                obtain ⟨a2, c2, rfl⟩ := own_lit R2
                have HT2 := Lib.hid T2
                clear T2 R2 HGO
                go_wp2_with fail
                have r0 : Rung s (w2.alloc (.cells #[] 3)) (.slice (some ⟨w2.heap.size, 0, none⟩) 0 0) [] := ⟨by simp, .inr ⟨w2.heap.size, 0, #[], rfl, by have := HT2.out.lt; omega, heap_alloc_new w2 _, by simp, by simp [maxLen], by simp, by simp⟩⟩
                have HTW := Lib.hid (one_alloc HT2.out (.cells #[] 3))
                have HR0 := Lib.hid r0
                obtain ⟨now2, h2⟩ : ∃ now2, now2 = p.1 - 1 := ⟨_, rfl⟩
                rw [← h2] at HTW
                have hn20 : 0 ≤ now2 := by omega
                have hn2p : now2 ≤ p.1 := by omega
                clear r0 HT2 h2 hgt HT hn0 hn1
              case' neg =>
                obtain ⟨now2, h2⟩ : ∃ now2, now2 = now := ⟨_, rfl⟩
                rw [← h2] at HT hgt hnp hn0
                have hn20 : 0 ≤ now2 := hn0
                have hn2p : now2 ≤ p.1 := hnp
                have hnd : decide (now2 < p.1) = false := by simp; omega
                clear h2
                go_wp2_with fail
                refine (next_some HT.out.clock).mono ?_
                rintro e W' ⟨rfl, rfl⟩
                go_wp2_with fail
                refine (now_any HT.out.clock).mono ?_
                rintro e W' ⟨rfl, rfl⟩
                have r0 : Rung s (wr.alloc (.cells #[] 3)) (.slice (some ⟨wr.heap.size, 0, none⟩) 0 0) [] := ⟨by simp, .inr ⟨wr.heap.size, 0, #[], rfl, by have := HT.out.lt; omega, heap_alloc_new wr _, by simp, by simp [maxLen], by simp, by simp⟩⟩
                have HTW := Lib.hid (one_alloc HT.out (.cells #[] 3))
                have HR0 := Lib.hid r0
                go_wp2_with fail
                clear r0 hgt HT hn0 hn1 hnd
              all_goals
                obtain ⟨nx, hnx⟩ : ∃ nx, nx = p.1 := ⟨_, rfl⟩
                rw [← hnx] at hp0 hp1 hn2p
                simp only [← hnx]
                have HNX := Lib.hid hnx
                clear hnx hnp
                go_loopw [8, 54] (fun v i wr => WantRel s k w1 now2 nx (p :: L3) v i wr) (fun _ i _ => k - (intOf i).toNat)
                case atStart => exact ⟨0, by omega, rfl, HTW.out, HR0.out⟩
                case round =>
                  obtain ⟨j, hj, rfl, T, Rg⟩ := hrel
                  have HTJ := Lib.hid T
                  have HRG := Lib.hid Rg
                  clear T Rg HTW HR0
                  by_cases hjk : j < k
                  · obtain ⟨x, hx⟩ : ∃ x, x = leftI now2 (p :: L3) j := ⟨_, rfl⟩
                    obtain ⟨b, hb⟩ : ∃ b, b = has (p :: L3) j := ⟨_, rfl⟩
                    have HL3 := Lib.hid (left_one j x b HTJ.out hx.symm hb.symm)
                    have hws := wantL_succ now2 nx (p :: L3) j
                    rw [← hx, ← hb] at hws
                    have hwl := wantL_length now2 nx (p :: L3) j
                    clear hx hb
                    cases b with
                    | false =>
                      rw [if_neg (by simp)] at hws
                      have HWS := Lib.hid hws
                      clear hws hwl
                      go_wp2_with fail
                      refine HL3.out.mono ?_
                      rintro e w3 ⟨rfl, T3, u3⟩
                      have HT3 := Lib.hid T3
                      have HR3 := Lib.hid (HRG.out.turn u3)
                      clear T3 u3
                      go_wp2
                      go_roundw
                      case rel => exact ⟨j + 1, by omega, by go_num, HT3.out, by rw [HWS.out]; exact HR3.out⟩
                      case measure => simp [intOf]; omega
                    | true =>
                      by_cases hxe : x = nx - now2
                      · rw [if_pos ⟨rfl, hxe⟩] at hws
                        have HWS := Lib.hid hws
                        clear hws
                        go_wp2_with fail
                        refine HL3.out.mono ?_
                        rintro e w3 ⟨rfl, T3, u3⟩
                        have HT3 := Lib.hid T3
                        have hr3 := HRG.out.turn u3
                        clear T3 u3
                        go_wp2_with fail
                        refine (now_any HT3.out.clock).mono ?_
                        rintro e W' ⟨rfl, rfl⟩
                        have hown := hr3
                        unfold Rung at hown
                        obtain ⟨X, hX⟩ : ∃ X, X = wantL now2 nx (p :: L3) j := ⟨_, rfl⟩
                        rw [← hX] at hown hwl HWS
                        clear hX hr3
                        go_wp2_with (at_builtin; refine wpList_append_own _ rfl _ _ 27 rfl (s + 1) 3 i0 (.int .i64 0) 1 8 Try.underlying27 hi hz0 hz1 hz2 rfl (by decide) _ _ _ rfl (hown.alloc _) ⟨w3.heap.size, 0, none⟩ 1 1 [.int .i64 j] rfl rfl (Go.cell_one_new _ _ _) (by simp [Value.oneCell']) (by unfold maxLen; omega) (by have := HT3.out.lt; omega) (by simp; have := HT3.out.lt; omega) ?_; intro v' w5 hown' hgrow _; have HT5 := Lib.hid (one_grown (one_alloc HT3.out _) (hown.alloc _) hgrow); clear hgrow hown)
                        go_roundw
                        case rel => exact ⟨j + 1, by omega, by go_num, HT5.out, by rw [HWS.out]; unfold Rung; simpa using hown'⟩
                        case measure => simp [intOf]; omega
                      · rw [if_neg (by rintro ⟨_, h⟩; exact hxe h)] at hws
                        have HWS := Lib.hid hws
                        have hxe' : (x == nx - now2) = false := by simpa using hxe
                        clear hws hwl
                        go_wp2_with fail
                        refine HL3.out.mono ?_
                        rintro e w3 ⟨rfl, T3, u3⟩
                        have HT3 := Lib.hid T3
                        have HR3 := Lib.hid (HRG.out.turn u3)
                        clear T3 u3
                        go_wp2_with fail
                        refine (now_any HT3.out.clock).mono ?_
                        rintro e W' ⟨rfl, rfl⟩
                        go_wp2
                        go_roundw
                        case rel => exact ⟨j + 1, by omega, by go_num, HT3.out, by rw [HWS.out]; exact HR3.out⟩
                        case measure => simp [intOf]; omega
                  · obtain rfl : j = k := by omega
                    have hst := stepI_to hn20 hn2p (by unfold MT; omega)
                    have hwant := want_rung HTJ.out.wf HID.out
                    rw [← HNX.out] at hwant
                    have HGO := Lib.hid (go_one (nx - now2) nx _ _ HTJ.out hst rfl rfl)
                    rw [hwant] at HRG
                    clear hst hwant
                    go_wp2_with fail
                    refine (now_any HTJ.out.clock).mono ?_
                    rintro e W' ⟨rfl, rfl⟩
                    go_wp2_with fail
                    refine HGO.out.mono ?_
                    rintro e w4 ⟨v4, rfl, R4, T4, u4⟩
                    have HT4 := Lib.hid T4
                    have hrl : (rungL nx (p :: L3)).length ≤ maxLen := by
                      have h1 : (rungL nx (p :: L3)).length ≤ (p :: L3).length := by unfold rungL; rw [List.length_map]; exact (List.takeWhile_sublist _).length_le
                      have := HL.out
                      unfold maxLen; omega
                    have HSAME := Lib.hid (same_true HT4.out R4.row (HRG.out.turn u4).row hrl)
                    clear T4 u4 R4 hrl HGO
                    go_wp2_with fail
                    refine HSAME.out.mono ?_
                    rintro e w5 ⟨rfl, T5, u5⟩
                    have HT5 := Lib.hid T5
                    clear T5 u5
                    go_wp2
                    go_roundw
                    case rel =>
                      have hrf := (rungL_filter (now := nx) HTJ.out.wf.sorted).2
                      refine ⟨r + 1, nx, restL nx (p :: L3), by omega, by go_num, HT5.out, ?_, ?_, ?_⟩
                      · intro q hq
                        rw [hrf] at hq
                        exact HID.out q (List.mem_filter.1 hq).1
                      · intro q hq
                        rw [hrf] at hq
                        have := (List.mem_filter.1 hq).2
                        simp at this
                        omega
                      · have h1 := rest_length (p := p) (L := L3)
                        have h2 := HL.out
                        rw [← HNX.out] at h1
                        simp at h2
                        omega
                    case measure => simp [intOf]; omega
          · go_wp2_with fail
            refine (len_any HT.out.clock).mono ?_
            rintro e W' ⟨rfl, rfl⟩
            go_wp2
            go_ret
            exact ⟨by have := HL.out; simp; exact List.eq_nil_of_length_eq_zero (by omega), HB1.out.trans (HT.out.old.mono hsw)⟩
/-- The walk, as the frame wants it. -/
theorem clockNexts_law {w : World} (v : Value) (L : List Int) (h : Open.RowOf .i64 w v L ∧ L.length ≤ maxLen ∧ ∀ n ∈ L, Open.I64 n) :
    Calls Try.prog 9 #[v] w fun e W' => e = .returned (.bool true) ∧ Below w.heap.size w W' :=
  clockNexts_walk v L w h.1 h.2.1
end Go.Proofs.Ytdmhjdmeelpmjaa.Clock
