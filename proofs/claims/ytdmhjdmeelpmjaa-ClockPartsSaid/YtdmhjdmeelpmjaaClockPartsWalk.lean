/-
  The walk of ClockParts.
-/
import Derived.Test.YtdmhjdmeelpmjaaClockPartsA
import Derived.Test.YtdmhjdmeelpmjaaOpen
namespace Go.Proofs.Ytdmhjdmeelpmjaa.Clock
open Go.RowKit
open Mail (Turn ret_int ret_bool sameInts_any RowOf ownsRow_base info_int)
set_option linter.unusedVariables false

/-- What the first loop knows. -/
def FillRel (s n : Nat) (R : List Int) (w : World) (i : Value) (wr : World) : Prop :=
  ∃ (k : Nat) (L : List (Int × Int)), k ≤ n ∧ i = .int .i64 k ∧ Both s w wr 0 L 0 L ∧ Fill R k L
/-- What the second loop knows. -/
def PartRel (s m : Nat) (w : World) (L0 : List (Int × Int)) (v sm i : Value) (wr : World) : Prop :=
  ∃ (k : Nat) (na : Int) (La : List (Int × Int)) (acc : List Int), k ≤ m ∧ i = .int .i64 k ∧ sm = .int .i64 na ∧ Both s w wr na La 0 L0 ∧ Rung2 s wr v acc ∧ St L0 k na La acc ∧ na ≤ 1023 * k
/-- What its inner loop knows. -/
def SeenRel (c : Nat) (w : World) (i : Value) (wr : World) : Prop := ∃ j : Nat, j ≤ c ∧ i = .int .i64 j ∧ wr = w
/-- What the last loop knows. -/
def LeftRel (s n : Nat) (w : World) (na : Int) (La : List (Int × Int)) (nb : Int) (Lb : List (Int × Int)) (i : Value) (wr : World) : Prop :=
  ∃ k : Nat, k ≤ n ∧ i = .int .i64 k ∧ Both s w wr na La nb Lb

set_option maxRecDepth 100000 in
set_option maxHeartbeats 8000000 in
theorem clockParts_walk (v u : Value) (R S : List Int) (w : World) (hv : Open.RowOf .i64 w v R) (hm : R.length ≤ maxLen) (hu : Open.RowOf .i64 w u S) (hm2 : S.length ≤ maxLen) :
    Calls Try.prog 8 #[v, u] w fun e W' => e = .returned (.bool true) ∧ Below w.heap.size w W' := by
  have hz := (zero_of_info info_clock).1
  obtain ⟨i0, hi, hz0, hz1, hz2⟩ := info_parts info_int
  obtain ⟨a, cap, rfl, ha⟩ := hv
  obtain ⟨a', cap', rfl, ha'⟩ := hu
  obtain ⟨n, hn⟩ : ∃ n, n = R.length := ⟨_, rfl⟩
  obtain ⟨m, hmm⟩ : ∃ m, m = S.length := ⟨_, rfl⟩
  rw [← hn] at hm ⊢
  rw [← hmm] at hm2 ⊢
  unfold maxLen at hm hm2
  have HA := Lib.hid ha
  have HN := Lib.hid hn
  have HA' := Lib.hid ha'
  have HM := Lib.hid hmm
  clear ha hn ha' hmm
  by_cases hbig : 60 < n
  · have hd : decide ((60 : Int) < (n : Int)) = true := by simp; omega
    go_enter Try.func8, Try.ntmps8
    go_wp2_with (go_at_call 26; refine (alive_any _).mono ?_; rintro e w' ⟨rfl, hb⟩)
    go_ret
    exact ⟨rfl, hb⟩
  · by_cases hbig2 : 60 < m
    · have hd : decide ((60 : Int) < (n : Int)) = false := by simp; omega
      have hd2 : decide ((60 : Int) < (m : Int)) = true := by simp; omega
      go_enter Try.func8, Try.ntmps8
      go_wp2_with (go_at_call 26; refine (alive_any _).mono ?_; rintro e w' ⟨rfl, hb⟩)
      go_ret
      exact ⟨rfl, hb⟩
    · have hle : n ≤ 60 := by omega
      have hle2 : m ≤ 60 := by omega
      have hd : decide ((60 : Int) < (n : Int)) = false := by simp; omega
      have hd2 : decide ((60 : Int) < (m : Int)) = false := by simp; omega
      clear hbig hbig2
      go_enter Try.func8, Try.ntmps8
      go_wp2_with (go_at_call 26; refine (alive_any _).mono ?_; rintro e w1 ⟨rfl, hb1⟩)
      have T0 := both_new w1
      obtain ⟨s, hs⟩ : ∃ s, s = w1.heap.size := ⟨_, rfl⟩
      have hs1 : (w1.alloc (.cells (clk 0 (fun _ => (0, 0)) 0) 57)).heap.size = s + 1 := by rw [hs]; simp
      obtain ⟨W0, hW⟩ : ∃ W0, W0 = (w1.alloc (.cells (clk 0 (fun _ => (0, 0)) 0) 57)).alloc (.cells (clk 0 (fun _ => (0, 0)) 0) 57) := ⟨_, rfl⟩
      try rw [hs1]
      rw [← hs, ← hW] at T0 ⊢
      have hsw : w.heap.size ≤ s := by rw [hs]; exact hb1.size
      have HT0 := Lib.hid T0
      have HB1 := Lib.hid hb1
      clear hd hd2 hW T0 hb1 hs hs1 hz
      go_loopw [34] (fun i wr => FillRel s n R w1 i wr) (fun i _ => n - (intOf i).toNat)
      case atStart => exact ⟨0, [], by omega, rfl, HT0.out, rfl, by simp⟩
      case round =>
        obtain ⟨k, L0, hk, rfl, T, hf⟩ := hrel
        have HT := Lib.hid T
        have HF := Lib.hid hf
        clear T hf HT0
        by_cases hkn : k < n
        · obtain ⟨g, off, rfl, hcells⟩ := HA.out (by intro e; have := HN.out; rw [e] at this; simp at this; omega)
          obtain ⟨x, hx⟩ : ∃ x, x = R[k]?.getD 0 := ⟨_, rfl⟩
          have hxk := hcells k (by have := HN.out; omega)
          rw [← hx] at hxk
          have hbw := World.block_lt_of_cell? w _ hxk
          have dx := ((HB1.out.trans (HT.out.old.mono hsw)).cell (p := ⟨g, off + k, none⟩) hbw).trans hxk
          obtain ⟨y, hy⟩ : ∃ y, y = x % 1024 := ⟨_, rfl⟩
          have hand : bits BinOp.and IntKind.i64 x 1023 = y := by rw [hy]; exact and1023 x
          obtain ⟨hp1, hp2⟩ := HF.out.put (by omega)
          rw [← hx, ← hy] at hp1 hp2
          have HP1 := Lib.hid hp1
          have HP2 := Lib.hid hp2
          clear hcells hx hxk hbw hy hp1 hp2
          go_wp2_with fail
          refine (setA k y 0 _ HT.out HP1.out rfl).mono ?_
          rintro e w2 ⟨rfl, T2, _⟩
          have HT2 := Lib.hid T2
          clear T2 dx
          go_wp2_with fail
          refine (setB k y 0 _ HT2.out HP1.out rfl).mono ?_
          rintro e w3 ⟨rfl, T3, _⟩
          have HT3 := Lib.hid T3
          clear T3
          go_wp2
          go_roundw
          case rel => exact ⟨k + 1, _, by omega, by go_num, HT3.out, HP2.out⟩
          case measure => simp [intOf]; omega
        · obtain rfl : k = n := by omega
          go_wp2_with fail
          have r0 : Rung2 s (wr.alloc (.cells #[] 3)) (.slice (some ⟨wr.heap.size, 0, none⟩) 0 0) [] := ⟨by simp, .inr ⟨wr.heap.size, 0, #[], rfl, HT.out.lt, heap_alloc_new wr _, by simp, by simp [maxLen], by simp, by simp⟩⟩
          have HT1 := Lib.hid (HT.out.alloc (.cells #[] 3))
          have HR0 := Lib.hid r0
          have HS := Lib.hid HT.out.fa.sorted
          clear r0 HT
          go_loopw [9, 10, 55] (fun v sm i wr => PartRel s m w1 L0 v sm i wr) (fun _ _ i _ => m - (intOf i).toNat)
          case atStart => exact ⟨0, 0, L0, [], by omega, rfl, rfl, HT1.out, HR0.out, .inl ⟨rfl, rfl, rfl, rfl⟩, by omega⟩
          case round =>
            obtain ⟨r, na, La, acc, hr, rfl, rfl, T, Rg, hst, hna⟩ := hrel
            have HT := Lib.hid T
            have HRG := Lib.hid Rg
            have HST := Lib.hid hst
            have hn0 := T.fa.n0
            clear T Rg hst HT1 HR0
            by_cases hrm : r < m
            · obtain ⟨g', off', rfl, hcells⟩ := HA'.out (by intro e; have := HM.out; rw [e] at this; simp at this; omega)
              obtain ⟨x, hx⟩ : ∃ x, x = S[r]?.getD 0 := ⟨_, rfl⟩
              have hxk := hcells r (by have := HM.out; omega)
              rw [← hx] at hxk
              have hbw := World.block_lt_of_cell? w _ hxk
              have dx := ((HB1.out.trans (HT.out.old.mono hsw)).cell (p := ⟨g', off' + r, none⟩) hbw).trans hxk
              obtain ⟨d, hy⟩ : ∃ d, d = x % 1024 := ⟨_, rfl⟩
              have hand : bits BinOp.and IntKind.i64 x 1023 = d := by rw [hy]; exact and1023 x
              have hd0 : 0 ≤ d := by omega
              have hd1 : d ≤ 1023 := by omega
              have hstep : stepI na d = na + d := by unfold stepI lateI; omega
              have HGO := Lib.hid (goA d (na + d) HT.out hstep)
              have HD0 := Lib.hid hd0
              clear hcells hx hxk hbw hy hstep
              go_wp2_with fail
              refine (now_any HT.out.a).mono ?_
              rintro e W' ⟨rfl, rfl⟩
              go_wp2_with fail
              refine HGO.out.mono ?_
              rintro e w2 ⟨v2, rfl, R2, T2, u2⟩
              have HT2 := Lib.hid T2
              have HRG2 := Lib.hid (HRG.out.turnA u2)
              clear T2 u2 HGO dx hand
              obtain ⟨nw, hnw⟩ : ∃ nw, nw = na + d := ⟨_, rfl⟩
              have HNW := Lib.hid hnw
              have hsum : IntKind.i64.wrap (na + d) = nw := by rw [hnw]; exact IntWalk.i64_in _ (by omega)
              obtain ⟨X, hX⟩ : ∃ X, X = rungL nw La := ⟨_, rfl⟩
              have HX := Lib.hid hX
              rw [← hnw, ← hX] at R2
              rw [← hnw] at HT2
              have hXl : X.length ≤ 60 := by
                rw [hX]
                have h1 := rung_length nw La
                have h2 := HST.out.length HS.out
                have h3 := HF.out.1
                omega
              clear hX hnw
              rcases R2.2 with ⟨rfl, hX0⟩ | ⟨g2, cap2, cur2, rfl, hg2, hb2, hr2⟩
              · obtain rfl : X = [] := List.eq_nil_of_length_eq_zero hX0
                clear hX0 R2
                go_wp2_with fail
                go_loopw [69] (fun i wr => SeenRel 0 w2 i wr) (fun _ _ => 0)
                case atStart => exact ⟨0, by omega, rfl, rfl⟩
                case round =>
                  obtain ⟨j, hj, rfl, rfl⟩ := hrel
                  obtain rfl : j = 0 := by omega
                  have hown := HRG2.out
                  unfold Rung2 at hown
                  go_wp2_with (at_builtin; refine wpList_append_own_none rfl _ _ 27 rfl (s + 2) 3 i0 1 Try.underlying27 hi _ _ _ rfl hown rfl ?_)
                  go_roundw
                  case rel =>
                    refine ⟨r + 1, nw, restL nw La, acc, by omega, by go_num, ?_, HT2.out, hown, ?_, ?_⟩
                    · simp
                    · have := HST.out.next HD0.out
                      rw [← HNW.out, ← HX.out] at this
                      simpa using this
                    · have := HNW.out; omega
                  case measure => simp [intOf]; omega
              · have hpc := World.ownsRow.cells R2 (g := g2) rfl
                obtain ⟨c, hc⟩ : ∃ c, c = X.length := ⟨_, rfl⟩
                rw [← hc]
                have HC := Lib.hid hc
                have HPC := Lib.hid hpc
                have HR2 := Lib.hid R2
                clear hpc hb2 hr2 R2 hc
                go_wp2_with fail
                go_loopw [69] (fun i wr => SeenRel c w2 i wr) (fun i _ => c - (intOf i).toNat)
                case atStart => exact ⟨0, by omega, rfl, rfl⟩
                case round =>
                  obtain ⟨j, hj, rfl, rfl⟩ := hrel
                  by_cases hjc : j < c
                  · have hjX : j < X.length := by have := HC.out; omega
                    obtain ⟨id, hid⟩ : ∃ id, id = X[j] := ⟨_, rfl⟩
                    have dc : wr.cell? ⟨g2, j, none⟩ = some (.int .i64 id) := by
                      have := HPC.out j (.int .i64 id) (by simp [hid, hjX])
                      by_cases hj0 : j = 0
                      · subst hj0; simpa [Addr.add] using this
                      · simpa [Addr.add, hj0] using this
                    obtain ⟨q, hq, hq2, hq1⟩ := rung_mem (t := nw) (x := id) HT.out.fa.sorted (by rw [← HX.out, hid]; exact List.getElem_mem _)
                    obtain ⟨hq0, hna'⟩ := HST.out.mem HS.out hq
                    obtain ⟨b0, b1, b2⟩ := HF.out.2 q hq0
                    obtain ⟨i, hii⟩ : ∃ i : Nat, id = (i : Int) := ⟨id.toNat, by omega⟩
                    rw [show q.2.toNat = i by omega] at b2
                    have hin : i < k := by omega
                    obtain ⟨g3, off3, rfl, hcells⟩ := HA.out (by intro e; have := HN.out; rw [e] at this; simp at this; omega)
                    obtain ⟨x3, hx3⟩ : ∃ x3, x3 = R[i]?.getD 0 := ⟨_, rfl⟩
                    have hxk := hcells i (by have := HN.out; omega)
                    rw [← hx3] at hxk b2
                    have hbw := World.block_lt_of_cell? w _ hxk
                    have dx3 := ((HB1.out.trans (HT2.out.old.mono hsw)).cell (p := ⟨g3, off3 + i, none⟩) hbw).trans hxk
                    obtain ⟨t, ht⟩ : ∃ t, t = x3 % 1024 := ⟨_, rfl⟩
                    have hand3 : bits BinOp.and IntKind.i64 x3 1023 = t := by rw [ht]; exact and1023 x3
                    rw [← ht] at b2
                    rw [b2] at hq1 hna'
                    have ht0 : 0 ≤ t := by omega
                    rw [hii] at dc
                    have e1 : decide (nw < t) = false := by simp; omega
                    clear hcells hx3 hxk hbw ht hq0 hq hq2 b0 b1 b2 hii hid
                    go_wp2_with fail
                    refine (now_any HT2.out.a).mono ?_
                    rintro e W' ⟨rfl, rfl⟩
                    by_cases hz : na = 0
                    · subst hz
                      have e2 : decide (t < 0) = false := by simp; omega
                      by_cases htz : t = 0
                      · subst htz
                        go_wp2
                        go_roundw
                        case rel => exact ⟨j + 1, by omega, by go_num, rfl⟩
                        case measure => simp [intOf]; omega
                      · have e3 : (t == 0) = false := by simpa using htz
                        go_wp2
                        go_roundw
                        case rel => exact ⟨j + 1, by omega, by go_num, rfl⟩
                        case measure => simp [intOf]; omega
                    · have hlt : na < t := by omega
                      have e2 : decide (t < na) = false := by simp; omega
                      have e3 : (t == na) = false := by simp; omega
                      go_wp2
                      go_roundw
                      case rel => exact ⟨j + 1, by omega, by go_num, rfl⟩
                      case measure => simp [intOf]; omega
                  · obtain rfl : j = c := by omega
                    have hown := HRG2.out
                    unfold Rung2 at hown
                    have hXn : (X.map (Value.int .i64)).length = j * 1 := by have := HC.out; simp; omega
                    have hal : acc.length ≤ 60 := by
                      have h2 := HST.out.length HS.out
                      have h3 := HF.out.1
                      omega
                    have hj60 : j ≤ 60 := by have := HC.out; omega
                    have HXN := Lib.hid hXn
                    clear hXn
                    go_wp2_with (at_builtin; refine wpList_append_own _ rfl _ _ 27 rfl (s + 2) 3 i0 (.int .i64 0) 1 8 Try.underlying27 hi hz0 hz1 hz2 rfl (by decide) _ _ _ rfl hown ⟨g2, 0, none⟩ j cap2 (X.map (Value.int .i64)) rfl HXN.out (fun i u h => HPC.out i u h) (by intro u hu; obtain ⟨y, _, rfl⟩ := List.mem_map.1 hu; rfl) (by unfold maxLen; omega) (by omega) HT2.out.lt ?_; intro v' w5 hown' hgrow _; have HT5 := Lib.hid (HT2.out.grown hown hgrow); clear hgrow hown)
                    go_roundw
                    case rel =>
                      refine ⟨r + 1, nw, restL nw La, acc ++ X, by omega, by go_num, ?_, HT5.out, ?_, ?_, ?_⟩
                      · simp
                      · unfold Rung2
                        rw [List.length_append, ← HC.out, List.map_append]
                        exact hown'
                      · have := HST.out.next HD0.out
                        rw [← HNW.out, ← HX.out] at this
                        exact this
                      · have := HNW.out; omega
                    case measure => simp [intOf]; omega
            · obtain rfl : r = m := by omega
              have hstep : stepI 0 na = na := by unfold stepI lateI; omega
              have HGO := Lib.hid (goB na na HT.out hstep)
              clear hstep
              go_wp2_with fail
              refine HGO.out.mono ?_
              rintro e w2 ⟨v2, rfl, R2, T2, u2⟩
              have HT2 := Lib.hid T2
              have hrg := HRG.out.turnB u2
              have hal : acc.length ≤ maxLen := by
                have h2 := HST.out.length HS.out
                have h3 := HF.out.1
                unfold maxLen; omega
              have HSAME := Lib.hid (sameA HT2.out hrg.row R2.row hal)
              clear u2 HGO T2 R2 hal
              obtain ⟨pa, pcap, rfl, _⟩ := hrg.row
              clear hrg
              by_cases heq : acc = rungL na L0
              · have hde : decide (acc = rungL na L0) = true := by simpa using heq
                rw [hde] at HSAME
                have hl1 : (restL na L0).length = La.length := by
                  have h2 := HST.out.length HS.out
                  have h3 := rung_length na L0
                  rw [← heq] at h3
                  omega
                have hl2 : La.length + acc.length = k := by
                  have h2 := HST.out.length HS.out
                  have h3 := HF.out.1
                  omega
                obtain ⟨la, hla⟩ : ∃ la, la = La.length := ⟨_, rfl⟩
                obtain ⟨lb, hlb⟩ : ∃ lb, lb = acc.length := ⟨_, rfl⟩
                have HLA := Lib.hid hla
                have HLB := Lib.hid hlb
                have HL1 := Lib.hid hl1
                rw [← hla, ← hlb] at hl2
                rw [← hlb] at HSAME ⊢
                have hadd : IntKind.i64.wrap ((la : Int) + (lb : Int)) = (k : Int) := by rw [show (la : Int) + (lb : Int) = (k : Int) by omega]; exact IntWalk.i64_in _ (by omega)
                have hadd2 : ((la : Int) + (lb : Int) == (k : Int)) = true := by simp; omega
                clear heq hde hla hlb hl1
                go_wp2_with fail
                refine HSAME.out.mono ?_
                rintro e w3 ⟨rfl, T3, _⟩
                have HT3 := Lib.hid T3
                clear T3 HSAME
                go_wp2_with fail
                refine (len_any HT3.out.a).mono ?_
                rintro e W' ⟨rfl, rfl⟩
                rw [← HLA.out]
                go_wp2_with fail
                refine (len_any HT3.out.b).mono ?_
                rintro e W' ⟨rfl, rfl⟩
                rw [HL1.out, ← HLA.out]
                go_wp2_with fail
                refine (len_any HT3.out.a).mono ?_
                rintro e W' ⟨rfl, rfl⟩
                rw [← HLA.out]
                go_wp2_with fail
                go_loopw [132] (fun i wr => LeftRel s k w1 na La na (restL na L0) i wr) (fun i _ => k - (intOf i).toNat)
                case atStart => exact ⟨0, by omega, rfl, HT3.out⟩
                case round =>
                  obtain ⟨j, hj, rfl, T⟩ := hrel
                  have HTJ := Lib.hid T
                  clear T HT3
                  by_cases hjk : j < k
                  · obtain ⟨g, off, rfl, hcells⟩ := HA.out (by intro e; have := HN.out; rw [e] at this; simp at this; omega)
                    obtain ⟨x, hx⟩ : ∃ x, x = R[j]?.getD 0 := ⟨_, rfl⟩
                    have hxk := hcells j (by have := HN.out; omega)
                    rw [← hx] at hxk
                    have hbw := World.block_lt_of_cell? w _ hxk
                    have dx := ((HB1.out.trans (HTJ.out.old.mono hsw)).cell (p := ⟨g, off + j, none⟩) hbw).trans hxk
                    obtain ⟨y, hy⟩ : ∃ y, y = x % 1024 := ⟨_, rfl⟩
                    have hand : bits BinOp.and IntKind.i64 x 1023 = y := by rw [hy]; exact and1023 x
                    have hy0 : 0 ≤ y := by omega
                    have hy1 : y ≤ 1023 := by omega
                    cases hb : has La j with
                    | false =>
                      have HL := Lib.hid (leftA j _ false HTJ.out rfl hb)
                      clear hcells hx hxk hbw hy hb
                      go_wp2_with fail
                      refine HL.out.mono ?_
                      rintro e w4 ⟨rfl, T4, _⟩
                      have HT4 := Lib.hid T4
                      clear T4
                      go_wp2
                      go_roundw
                      case rel => exact ⟨j + 1, by omega, by go_num, HT4.out⟩
                      case measure => simp [intOf]; omega
                    | true =>
                      have hleft : leftI na La j = y - na := by
                        obtain ⟨q, hq, he⟩ := has_iff.1 hb
                        obtain ⟨_, hg⟩ := at_fi HTJ.out.fa.ids hq he
                        obtain ⟨hq0, _⟩ := HST.out.mem HS.out hq
                        have h3 := (HF.out.2 q hq0).2.2
                        rw [he, show ((j : Int)).toNat = j by omega, ← hx, ← hy] at h3
                        unfold leftI
                        rw [hb, hg, h3]
                        rfl
                      have HL := Lib.hid (leftA j _ true HTJ.out hleft hb)
                      clear hcells hx hxk hbw hy hb hleft
                      go_wp2_with fail
                      refine HL.out.mono ?_
                      rintro e w4 ⟨rfl, T4, _⟩
                      have HT4 := Lib.hid T4
                      clear T4
                      go_wp2
                      go_roundw
                      case rel => exact ⟨j + 1, by omega, by go_num, HT4.out⟩
                      case measure => simp [intOf]; omega
                  · go_wp2_with fail
                    refine (now_any HTJ.out.a).mono ?_
                    rintro e W' ⟨rfl, rfl⟩
                    go_wp2_with fail
                    refine (now_any HTJ.out.b).mono ?_
                    rintro e W' ⟨rfl, rfl⟩
                    go_wp2
                    go_ret
                    exact ⟨by simp, HB1.out.trans (HTJ.out.old.mono hsw)⟩
              · have hde : decide (acc = rungL na L0) = false := by simpa using heq
                rw [hde] at HSAME
                have hr0 : r = 0 := by
                  rcases HST.out with ⟨h, _⟩ | ⟨_, _, h⟩
                  · exact h
                  · exact absurd h heq
                clear heq hde hna
                subst hr0
                go_wp2_with fail
                refine HSAME.out.mono ?_
                rintro e w3 ⟨rfl, T3, _⟩
                have HT3 := Lib.hid T3
                clear T3 HSAME
                go_wp2
                go_ret
                exact ⟨by simp, HB1.out.trans (HT3.out.old.mono hsw)⟩
/-- The walk, as the frame wants it. -/
theorem clockParts_law {w : World} (v : Value) (L : List Int) (h : Open.RowOf .i64 w v L ∧ L.length ≤ maxLen ∧ ∀ n ∈ L, Open.I64 n) (u : Value) (S : List Int) (h2 : Open.RowOf .i64 w u S ∧ S.length ≤ maxLen ∧ ∀ n ∈ S, Open.I64 n) :
    Calls Try.prog 8 #[v, u] w fun e W' => e = .returned (.bool true) ∧ Below w.heap.size w W' :=
  clockParts_walk v u L S w h.1 h.2.1 h2.1 h2.2.1
end Go.Proofs.Ytdmhjdmeelpmjaa.Clock
