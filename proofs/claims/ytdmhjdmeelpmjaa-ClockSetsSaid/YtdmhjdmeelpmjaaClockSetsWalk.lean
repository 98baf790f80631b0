/-
  The walk of ClockSets.
-/
import Derived.Test.YtdmhjdmeelpmjaaClockSetsA
import Derived.Test.YtdmhjdmeelpmjaaOpen
namespace Go.Proofs.Ytdmhjdmeelpmjaa.Clock
open Go.RowKit Go.Maps
open Mail (Turn ret_int ret_bool sameInts_any RowOf ownsRow_base info_int)
set_option linter.unusedVariables false

theorem zero_i64 (w : World) : (zeroValue 2).run Try.prog w = .ok (.int .i64 0) w := by kernel_rfl
/-- What the first two loops know: k alarms were set, behind n0. -/
def SetsRel (s n0 n : Nat) (w : World) (i : Value) (wr : World) : Prop :=
  ∃ (k : Nat) (L : List (Int × Int)) (D : DataW Unit), k ≤ n ∧ i = .int .i64 k ∧ One s w wr 0 L ∧ OwnM wr (s + 1) (n0 + k) D ∧ MapIs D L ∧ (∀ q ∈ L, q.1 ≤ 255 ∧ 0 ≤ q.2 ∧ q.2 ≤ 60) ∧ L.length ≤ n0 + k
/-- What the walk of the time knows. -/
def TimeRel (s : Nat) (w : World) (i : Value) (wr : World) : Prop :=
  ∃ (t : Nat) (now : Int) (L : List (Int × Int)) (D : DataW Unit), t ≤ 256 ∧ i = .int .i64 t ∧ (t = 0 ∧ now = 0 ∨ 0 < t ∧ now = (t : Int) - 1) ∧ One s w wr now L ∧ OwnM wr (s + 1) 60 D ∧ MapIs D L ∧ (∀ q ∈ L, (t : Int) ≤ q.1 ∧ q.1 ≤ 255 ∧ 0 ≤ q.2 ∧ q.2 ≤ 60)
/-- What its inner loop knows: j of those that rang were struck. -/
def StruckRel (s c : Nat) (w : World) (now : Int) (L R : List (Int × Int)) (v : Value) (X : List Int) (i : Value) (wr : World) : Prop :=
  ∃ (j : Nat) (D : DataW Unit), j ≤ c ∧ i = .int .i64 j ∧ One s w wr now R ∧ OwnM wr (s + 1) 60 D ∧ MapIs D (L.drop j) ∧ Rung2 s wr v X

set_option maxRecDepth 100000 in
set_option maxHeartbeats 8000000 in
theorem clockSets_walk (v u : Value) (R S : List Int) (drop : Int) (w : World) (hv : Open.RowOf .i64 w v R) (hm : R.length ≤ maxLen) (hu : Open.RowOf .i64 w u S) (hm2 : S.length ≤ maxLen) (hdr : Open.I64 drop) :
    Calls Try.prog 10 #[v, u, .int .i64 drop] w fun e W' => e = .returned (.bool true) ∧ Below w.heap.size w W' := by
  have hz := (zero_of_info info_clock).1
  have hmm : ∀ w : World, (Instr.makeMap 84 none).run Try.prog w = .ok (.map (some w.heap.size)) (w.alloc (.map #[] 0)) := fun _ => by kernel_rfl
  obtain ⟨i0, hi, hz0, hz1, hz2⟩ := info_parts info_int
  obtain ⟨a, cap, rfl, ha⟩ := hv
  obtain ⟨a', cap', rfl, ha'⟩ := hu
  obtain ⟨n, hn⟩ : ∃ n, n = R.length := ⟨_, rfl⟩
  obtain ⟨m, hms⟩ : ∃ m, m = S.length := ⟨_, rfl⟩
  rw [← hn] at hm ⊢
  rw [← hms] at hm2 ⊢
  unfold maxLen at hm hm2
  have HA := Lib.hid ha
  have HN := Lib.hid hn
  have HA' := Lib.hid ha'
  have HM := Lib.hid hms
  clear ha hn ha' hms
  by_cases hbig : 30 < n
  · have hd : decide ((30 : Int) < (n : Int)) = true := by simp; omega
    go_enter Try.func10, Try.ntmps10
    go_wp2_with (go_at_call 26; refine (alive_any _).mono ?_; rintro e w' ⟨rfl, hb⟩)
    go_ret
    exact ⟨rfl, hb⟩
  · by_cases hbig2 : n < m
    · have hd : decide ((30 : Int) < (n : Int)) = false := by simp; omega
      have hd2 : decide ((n : Int) < (m : Int)) = true := by simp; omega
      go_enter Try.func10, Try.ntmps10
      go_wp2_with (go_at_call 26; refine (alive_any _).mono ?_; rintro e w' ⟨rfl, hb⟩)
      go_ret
      exact ⟨rfl, hb⟩
    · have hle : n ≤ 30 := by omega
      have hle2 : m ≤ n := by omega
      have hd : decide ((30 : Int) < (n : Int)) = false := by simp; omega
      have hd2 : decide (n < m) = false := by simp; omega
      clear hbig hbig2
      go_enter Try.func10, Try.ntmps10
      go_wp2_with (go_at_call 26; refine (alive_any _).mono ?_; rintro e w1 ⟨rfl, hb1⟩)
      have T0 := one_alloc (one_new w1) (.map #[] 0)
      have M0 := World.ownsMap_made (w1.alloc (.cells (clk 0 (fun _ => (0, 0)) 0) 57)) Try.prog 3 (plainElem (H := Unit) Try.prog 2)
      obtain ⟨s, hs⟩ : ∃ s, s = w1.heap.size := ⟨_, rfl⟩
      have hs1 : (w1.alloc (.cells (clk 0 (fun _ => (0, 0)) 0) 57)).heap.size = s + 1 := by rw [hs]; simp
      obtain ⟨W0, hW⟩ : ∃ W0, W0 = (w1.alloc (.cells (clk 0 (fun _ => (0, 0)) 0) 57)).alloc (.map #[] 0) := ⟨_, rfl⟩
      try rw [hs1]
      rw [hs1] at M0
      rw [← hs, ← hW] at T0
      rw [← hW] at M0
      rw [← hs, ← hW]
      have hsw : w.heap.size ≤ s := by rw [hs]; exact hb1.size
      have HT0 := Lib.hid T0
      have HM0 := Lib.hid M0
      have HB1 := Lib.hid hb1
      clear hd hd2 hW T0 M0 hb1 hs hs1 hz hmm
      go_loopw [33] (fun i wr => SetsRel s 0 n w1 i wr) (fun i _ => n - (intOf i).toNat)
      case atStart => exact ⟨0, [], _, by omega, rfl, HT0.out, HM0.out, mapIs_nil, by simp, by simp⟩
      case round =>
        obtain ⟨k, L, D, hk, rfl, T, hown, his, hbd, hlen⟩ := hrel
        have HT := Lib.hid T
        have HO := Lib.hid hown
        have HI := Lib.hid his
        have HBD := Lib.hid hbd
        have HL := Lib.hid hlen
        clear T hown his hbd hlen HT0 HM0
        by_cases hkn : k < n
        · obtain ⟨g, off, rfl, hcells⟩ := HA.out (by intro e; have := HN.out; rw [e] at this; simp at this; omega)
          obtain ⟨x, hx⟩ : ∃ x, x = R[k]?.getD 0 := ⟨_, rfl⟩
          have hxk := hcells k (by have := HN.out; omega)
          rw [← hx] at hxk
          have hbw := World.block_lt_of_cell? w _ hxk
          have dx := ((HB1.out.trans (HT.out.old.mono hsw)).cell (p := ⟨g, off + k, none⟩) hbw).trans hxk
          obtain ⟨y, hy⟩ : ∃ y, y = x % 256 := ⟨_, rfl⟩
          have hand : bits BinOp.and IntKind.i64 x 255 = y := by rw [hy]; exact and255 x
          have hy0 : 0 ≤ y := by omega
          have hy1 : y ≤ 255 := by omega
          have HKEY : Hid (keyOf Try.prog 3 (.int .i64 (k : Int)) = some (.int .i64 (k : Int))) := keyOf_int_mk Try.underlying3 (WalkArith.wf_i64 (by omega))
          have HVAL : Hid (plainElem (H := Unit) Try.prog 2 (.int .i64 y) = some (.lit (.int .i64 y), [])) := plainElem_int Try.underlying2 (WalkArith.wf_i64 (by omega))
          clear hcells hx hxk hbw hy
          go_wp2_with fail
          refine (set_free k y HT.out (by have := HL.out; omega) hy0 hy1).mono ?_
          rintro e w2 ⟨x2, rfl, T2, u2⟩
          have HT2 := Lib.hid T2
          have hown2 := HO.out.turn u2 (by omega)
          clear T2 u2 dx
          go_wp2_with (at_mapUpdate; refine wpList_mapUpdate_own _ rfl _ _ _ 84 rfl 3 2 (int_keyed Try.underlying3) Try.underlying84 _ (s + 1) (0 + k) _ rfl hown2 (by unfold maxLen; omega) _ _ _ rfl rfl HKEY.out _ [] HVAL.out ?_; intro w3 hown3 hgrow3)
          go_roundw
          case rel =>
            refine ⟨k + 1, _, _, by omega, by go_num, HT2.out.other (turn_of_grown hgrow3), hown3, HI.out.put HO.out.tidy HT.out.wf.ids k y, set_bd HBD.out hy1 (by omega) (by omega), ?_⟩
            have h1 := set_length (L := L) k y
            have h2 := HL.out
            omega
          case measure => simp [intOf]; omega
        · obtain rfl : k = n := by omega
          have HT1 := HT
          have HO1 := HO
          have HI1 := HI
          have HBD1 := HBD
          have HL1 := HL
          clear HT HO HI HBD HL
          go_wp2_with fail
          go_loopw [49] (fun i wr => SetsRel s k m w1 i wr) (fun i _ => m - (intOf i).toNat)
          case atStart => exact ⟨0, L, D, by omega, rfl, HT1.out, by have := HO1.out; rw [Nat.zero_add] at this; exact this, HI1.out, HBD1.out, by have := HL1.out; omega⟩
          case round =>
            obtain ⟨r, L, D, hk, rfl, T, hown, his, hbd, hlen⟩ := hrel
            have HT := Lib.hid T
            have HO := Lib.hid hown
            have HI := Lib.hid his
            have HBD := Lib.hid hbd
            have HL := Lib.hid hlen
            clear T hown his hbd hlen HT1 HO1 HI1 HBD1 HL1
            by_cases hkn : r < m
            · obtain ⟨g, off, rfl, hcells⟩ := HA'.out (by intro e; have := HM.out; rw [e] at this; simp at this; omega)
              obtain ⟨x, hx⟩ : ∃ x, x = S[r]?.getD 0 := ⟨_, rfl⟩
              have hxk := hcells r (by have := HM.out; omega)
              rw [← hx] at hxk
              have hbw := World.block_lt_of_cell? w _ hxk
              have dx := ((HB1.out.trans (HT.out.old.mono hsw)).cell (p := ⟨g, off + r, none⟩) hbw).trans hxk
              obtain ⟨y, hy⟩ : ∃ y, y = x % 256 := ⟨_, rfl⟩
              have hand : bits BinOp.and IntKind.i64 x 255 = y := by rw [hy]; exact and255 x
              have hy0 : 0 ≤ y := by omega
              have hy1 : y ≤ 255 := by omega
              have HKEY : Hid (keyOf Try.prog 3 (.int .i64 (r : Int)) = some (.int .i64 (r : Int))) := keyOf_int_mk Try.underlying3 (WalkArith.wf_i64 (by omega))
              have HVAL : Hid (plainElem (H := Unit) Try.prog 2 (.int .i64 y) = some (.lit (.int .i64 y), [])) := plainElem_int Try.underlying2 (WalkArith.wf_i64 (by omega))
              clear hcells hx hxk hbw hy
              go_wp2_with fail
              refine (set_free r y HT.out (by have := HL.out; omega) hy0 hy1).mono ?_
              rintro e w2 ⟨x2, rfl, T2, u2⟩
              have HT2 := Lib.hid T2
              have hown2 := HO.out.turn u2 (by omega)
              clear T2 u2 dx
              go_wp2_with (at_mapUpdate; refine wpList_mapUpdate_own _ rfl _ _ _ 84 rfl 3 2 (int_keyed Try.underlying3) Try.underlying84 _ (s + 1) (k + r) _ rfl hown2 (by unfold maxLen; omega) _ _ _ rfl rfl HKEY.out _ [] HVAL.out ?_; intro w3 hown3 hgrow3)
              go_roundw
              case rel =>
                refine ⟨r + 1, _, _, by omega, by go_num, HT2.out.other (turn_of_grown hgrow3), hown3, HI.out.put HO.out.tidy HT.out.wf.ids r y, set_bd HBD.out hy1 (by omega) (by omega), ?_⟩
                have h1 := set_length (L := L) r y
                have h2 := HL.out
                omega
              case measure => simp [intOf]; omega
            · obtain rfl : r = m := by omega
              have HKEY : Hid (keyOf Try.prog 3 (.int .i64 drop) = some (.int .i64 drop)) := keyOf_int_mk Try.underlying3 (WalkArith.wf_i64 hdr)
              by_cases hb : has L drop = true
              case' pos =>
                have HDR := Lib.hid (drop_one drop true _ HT.out hb rfl)
                clear hb
                go_wp2_with fail
                refine HDR.out.mono ?_
                rintro e w2 ⟨rfl, T2, u2⟩
                have HT2 := Lib.hid T2
                have hown2 := HO.out.turn u2 (by omega)
                clear T2 u2 HDR
                go_wp2_with (at_delete; refine wpList_delete_own _ rfl _ _ 84 3 rfl 2 (int_keyed Try.underlying3) Try.underlying84 _ (s + 1) (k + r) D rfl hown2 _ _ rfl HKEY.out ?_; intro w3 hown3 hturn3)
                have HT3 := Lib.hid (HT2.out.other (turn_of_grown hturn3.grown))
                have HI3 := Lib.hid (HI.out.del HO.out.tidy HT.out.wf.ids drop)
                obtain ⟨D3, hD3⟩ : ∃ D3, D3 = D.del (.int .i64 drop) := ⟨_, rfl⟩
                rw [← hD3] at hown3 HI3
                clear hD3 hown2 hturn3 HT2
              case' neg =>
                have hb' : has L drop = false := by simpa using hb
                have HDR := Lib.hid (drop_one drop false _ HT.out hb' rfl)
                have HI3 := HI
                rw [← dropL_none hb'] at HI3
                clear hb hb'
                go_wp2_with fail
                refine HDR.out.mono ?_
                rintro e w3 ⟨rfl, T2, u2⟩
                have HT3 := Lib.hid T2
                have hown3 := HO.out.turn u2 (by omega)
                obtain ⟨D3, hD3⟩ : ∃ D3, D3 = D := ⟨_, rfl⟩
                rw [← hD3] at hown3 HI3
                clear hD3 T2 u2 HDR
                go_wp2_with fail
              all_goals
                have hbd3 : ∀ q ∈ dropL L drop, ((0 : Nat) : Int) ≤ q.1 ∧ q.1 ≤ 255 ∧ 0 ≤ q.2 ∧ q.2 ≤ 60 := fun q hq => ⟨by have := (HT3.out.wf.due q hq).1; omega, HBD.out q (List.mem_filter.1 hq).1⟩
                obtain ⟨L3, hL3⟩ : ∃ L3, L3 = dropL L drop := ⟨_, rfl⟩
                rw [← hL3] at HT3 HI3 hbd3
                have HBD3 := Lib.hid hbd3
                obtain ⟨l3, hl3⟩ : ∃ l3, l3 = L3.length := ⟨_, rfl⟩
                have hsz : Maps.size D3 = l3 := by rw [hl3]; exact HI3.out.sz
                have HLL := Lib.hid hl3
                have HO3 := Lib.hid (World.ownsMap.mono hown3 (show k + r ≤ 60 by omega))
                clear hL3 hbd3 hl3 HT HO HI HBD HL HKEY hown3
                refine (len_any HT3.out.clock).mono ?_
                rintro e W' ⟨rfl, rfl⟩
                rw [← HLL.out]
                go_wp2_with (at_len; refine wpList_len_own _ rfl _ 84 rfl 3 2 Try.underlying84 _ (s + 1) 60 D3 rfl HO3.out ?_)
                clear hsz
                go_loopw [13] (fun i wr => TimeRel s w1 i wr) (fun i _ => 256 - (intOf i).toNat)
                case atStart => exact ⟨0, 0, L3, D3, by omega, rfl, .inl ⟨rfl, rfl⟩, HT3.out, HO3.out, HI3.out, HBD3.out⟩
                case round =>
                  obtain ⟨t, now, L, D, ht, rfl, hnow, T, hown, his, hbd⟩ := hrel
                  have HT := Lib.hid T
                  have HO := Lib.hid hown
                  have HI := Lib.hid his
                  have HBD := Lib.hid hbd
                  clear T hown his hbd HT3 HO3 HI3 HBD3
                  obtain ⟨tt, htt⟩ : ∃ tt : Int, tt = (t : Int) := ⟨_, rfl⟩
                  rw [← htt] at hnow
                  simp only [← htt]
                  have HTT := Lib.hid htt
                  by_cases hlt : t < 256
                  · have hlt' : tt < 256 := by omega
                    have ht0 : 0 ≤ tt := by omega
                    clear htt
                    have hc3 : tt = 0 ∨ tt = 1 ∨ 1 < tt := by omega
                    rcases hc3 with h | h | h
                    case' inl => subst h
                    case' inr.inl => subst h
                    all_goals
                      go_wp2_with fail
                      refine (go_two _ (t : Int) HT.out (by have := World.ownsMap.lt HO.out; omega) (by unfold stepI lateI; have := HTT.out; omega)).mono ?_
                      rintro e w2 ⟨v2, rfl, R2, T2, u2⟩
                      have hown2 := HO.out.turn u2 (by omega)
                      obtain ⟨hX1, hX2, hX3⟩ := rung_take (L := L) (t := (t : Int))
                      obtain ⟨X, hX⟩ : ∃ X, X = rungL (t : Int) L := ⟨_, rfl⟩
                      rw [← hX] at R2 hX1 hX2 hX3
                      rw [hX2] at T2
                      have hdue : ∀ j (hj : j < L.length), j < X.length → (L[j]).1 = (t : Int) := by
                        intro j hj hjX
                        have h1 := (HBD.out L[j] (List.getElem_mem _)).1
                        have h2 : L[j] ∈ L.takeWhile (fun p => decide (p.1 ≤ (t : Int))) := by
                          have e : L.takeWhile (fun p => decide (p.1 ≤ (t : Int))) = L.take X.length := by
                            have e1 : L.takeWhile (fun p => decide (p.1 ≤ (t : Int))) ++ L.dropWhile (fun p => decide (p.1 ≤ (t : Int))) = L := List.takeWhile_append_dropWhile
                            conv => rhs; rw [← e1]
                            rw [List.take_left' (by rw [hX]; unfold rungL; simp)]
                          rw [e, List.mem_take_iff_getElem]
                          exact ⟨j, by omega, rfl⟩
                        have h3 := List.all_eq_true.1 (List.all_takeWhile (p := fun p : Int × Int => decide (p.1 ≤ (t : Int))) (l := L)) _ h2
                        simp at h3
                        omega
                      have hrest : ∀ q ∈ L.drop X.length, (((t + 1 : Nat)) : Int) ≤ q.1 ∧ q.1 ≤ 255 ∧ 0 ≤ q.2 ∧ q.2 ≤ 60 := by
                        intro q hq
                        have h1 := HBD.out q (List.mem_of_mem_drop hq)
                        rw [← hX2, (rungL_filter HT.out.wf.sorted).2] at hq
                        have h2 := (List.mem_filter.1 hq).2
                        simp at h2
                        omega
                      obtain ⟨c, hc⟩ : ∃ c, c = X.length := ⟨_, rfl⟩
                      have hc64 : c ≤ 64 := by have := HT.out.clock.le; omega
                      have HT2 := Lib.hid T2
                      have HX1 := Lib.hid hX1
                      have HDUE := Lib.hid hdue
                      have HREST := Lib.hid hrest
                      have HX3 := Lib.hid hX3
                      have HC := Lib.hid hc
                      have HWF := Lib.hid HT.out.wf
                      have HR2 := Lib.hid (show Rung2 s w2 v2 X from R2)
                      have HO2 := Lib.hid hown2
                      clear hX T2 hX1 hX2 hX3 hdue hrest u2 hown2 hnow HT HO hc
                      rcases R2.2 with ⟨rfl, hX0⟩ | ⟨g2, cap2, cur2, rfl, hg2, hb2, hr2⟩
                      · obtain rfl : c = 0 := HC.out.trans hX0
                        obtain rfl : X = [] := List.eq_nil_of_length_eq_zero hX0
                        clear hX0 R2
                        go_wp2_with fail
                        go_loopw [79] (fun i wr => i = .int .i64 0 ∧ wr = w2) (fun _ _ => 0)
                        case atStart => exact ⟨rfl, rfl⟩
                        case round =>
                          obtain ⟨rfl, rfl⟩ := hrel
                          go_wp2
                          go_roundw
                          case rel => exact ⟨t + 1, (t : Int), L, D, by omega, congrArg _ (by have := HTT.out; omega), .inr ⟨by omega, by omega⟩, by simpa using HT2.out, HO2.out, HI.out, by simpa using HREST.out⟩
                          case measure => (simp [intOf]; try (have := HTT.out; omega))
                      · have hpc := World.ownsRow.cells R2 (g := g2) rfl
                        have HPC := Lib.hid hpc
                        rw [← HC.out]
                        clear hpc hb2 hr2 R2
                        go_wp2_with fail
                        go_loopw [79] (fun i wr => StruckRel s c w1 (t : Int) L (L.drop X.length) (.slice (some ⟨g2, 0, none⟩) c cap2) X i wr) (fun i _ => c - (intOf i).toNat)
                        case atStart => exact ⟨0, D, by omega, rfl, HT2.out, HO2.out, by simpa using HI.out, by have := HR2.out; rw [← HC.out] at this; exact this⟩
                        case round =>
                          obtain ⟨j, D2, hj, rfl, T, hown, his, Rg⟩ := hrel
                          have HTJ := Lib.hid T
                          have HOJ := Lib.hid hown
                          have HIJ := Lib.hid his
                          have HRJ := Lib.hid Rg
                          clear T hown his Rg HT2 HO2 HI HR2
                          by_cases hjc : j < c
                          · have hjX : j < X.length := by have := HC.out; omega
                            have hjL : j < L.length := by have := HX3.out; omega
                            obtain ⟨id, hid⟩ : ∃ id, id = (L[j]).2 := ⟨_, rfl⟩
                            have hXj : X[j] = id := by
                              have h1 : X[j]? = (List.map (fun x => x.2) (List.take X.length L))[j]? := by rw [← HX1.out]
                              rw [List.getElem?_eq_getElem hjX, List.getElem?_map, List.getElem?_take_of_lt hjX, List.getElem?_eq_getElem hjL] at h1
                              rw [hid]; exact Option.some.inj h1
                            have dc : wr.cell? ⟨g2, j, none⟩ = some (.int .i64 id) := by
                              have := World.ownsRow.cells HRJ.out (g := g2) rfl j (.int .i64 id) (by simp [hjX, hXj])
                              by_cases hj0 : j = 0
                              · subst hj0; simpa [Addr.add] using this
                              · simpa [Addr.add, hj0] using this
                            have hbd := HBD.out L[j] (List.getElem_mem _)
                            rw [← hid] at hbd
                            have HKEY : Hid (keyOf Try.prog 3 (.int .i64 id) = some (.int .i64 id)) := keyOf_int_mk Try.underlying3 (WalkArith.wf_i64 (by omega))
                            have hhas : Maps.has D2 (.int .i64 id) = true := by rw [HIJ.out.hs, hid]; exact has_drop hjL
                            have hat0 : D2.atKey (.int .i64 id) (.lit (.int .i64 0)) = .lit (.int .i64 (t : Int)) := by
                              have := HIJ.out.at_ _ (mem_drop_get hjL)
                              rw [HDUE.out j hjL hjX, ← hid] at this
                              exact this
                            rw [← HTT.out] at hat0
                            have HAT := Lib.hid hat0
                            have HID := Lib.hid hid
                            clear hat0 hid hXj hbd
                            go_wp2_with (first
                              | (at_lookup; refine wpList_lookup_own_ok_int _ rfl _ _ 84 rfl 3 2 .i64 (int_keyed Try.underlying3) Try.underlying84 Try.underlying2 (zero_i64 _) (s + 1) 60 D2 rfl HOJ.out _ _ rfl HKEY.out ?_; intro cc hat hwc; have hcc := (Lit.int.inj (DataW.lit.inj (hat.symm.trans HAT.out))).2; clear hat hwc)
                              | (at_delete; refine wpList_delete_own _ rfl _ _ 84 3 rfl 2 (int_keyed Try.underlying3) Try.underlying84 _ (s + 1) 60 D2 rfl HOJ.out _ _ rfl HKEY.out ?_; intro w3 hown3 hturn3))
                            go_roundw
                            case rel =>
                              refine ⟨j + 1, _, by omega, by go_num, HTJ.out.other (turn_of_grown hturn3.grown), hown3, ?_, HRJ.out.turnB (turn_of_grown hturn3.grown)⟩
                              have := HIJ.out.del HOJ.out.tidy HWF.out.ids.drop id
                              rw [HID.out, dropL_drop HWF.out.ids hjL] at this
                              rw [HID.out]; exact this
                            case measure => simp [intOf]; omega
                          · obtain rfl : j = c := by omega
                            have hj' : L.drop j = L.drop X.length := by rw [HC.out]
                            rw [hj'] at HIJ
                            clear hj'
                            go_wp2
                            go_roundw
                            case rel => exact ⟨t + 1, (t : Int), L.drop X.length, D2, by omega, congrArg _ (by have := HTT.out; omega), .inr ⟨by omega, by omega⟩, HTJ.out, HOJ.out, HIJ.out, HREST.out⟩
                            case measure => (simp [intOf]; try (have := HTT.out; omega))
                  · obtain rfl : t = 256 := by omega
                    have hL : L = [] := by
                      cases L with
                      | nil => rfl
                      | cons q L => have := HBD.out q (by simp); omega
                    subst hL
                    have hsz : Maps.size D = 0 := HI.out.sz
                    have hlt' : ¬ tt < 256 := by omega
                    have hn : now = 255 := by omega
                    subst hn
                    clear htt hnow
                    go_wp2_with (at_len; refine wpList_len_own _ rfl _ 84 rfl 3 2 Try.underlying84 _ (s + 1) 60 D rfl HO.out ?_)
                    refine (now_any HT.out.clock).mono ?_
                    rintro e W' ⟨rfl, rfl⟩
                    go_wp2
                    go_ret
                    exact ⟨by simp, HB1.out.trans (HT.out.old.mono hsw)⟩
/-- The walk, as the frame wants it. -/
theorem clockSets_law {w : World} (v : Value) (L : List Int) (h : Open.RowOf .i64 w v L ∧ L.length ≤ maxLen ∧ ∀ n ∈ L, Open.I64 n) (u : Value) (S : List Int) (h2 : Open.RowOf .i64 w u S ∧ S.length ≤ maxLen ∧ ∀ n ∈ S, Open.I64 n) (drop : Int) (h3 : (Lit.int .i64 drop).wf = true) :
    Calls Try.prog 10 #[v, u, .int .i64 drop] w fun e W' => e = .returned (.bool true) ∧ Below w.heap.size w W' :=
  clockSets_walk v u L S drop w h.1 h.2.1 h2.1 h2.2.1 (Open.i64_bd h3)
end Go.Proofs.Ytdmhjdmeelpmjaa.Clock
