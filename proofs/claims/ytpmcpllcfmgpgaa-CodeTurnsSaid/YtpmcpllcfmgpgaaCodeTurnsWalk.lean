/-
  The walk of CodeTurns: it returns true whatever comes, and leaves all that was in memory as it was.
-/
import Derived.Test.YtpmcpllcfmgpgaaCodeJ
import Derived.Deep.RegionHeld3
namespace Go.Proofs.Ytpmcpllcfmgpgaa.Code
open Go.RowKit Go.Shelf Go.Maps
set_option linter.unusedVariables false

/-- In how many of its first places a table differs from page 37. -/
def df (T : List Int) : Nat → Nat
  | 0 => 0
  | k + 1 => df T k + if T[k]?.getD 0 = p37[k]?.getD 0 then 0 else 1
theorem df_le (T : List Int) : ∀ k, df T k ≤ k
  | 0 => Nat.le_refl _
  | k + 1 => by have := df_le T k; unfold df; split <;> omega
theorem df_same (T : List Int) (k : Nat) (h : T[k]?.getD 0 = p37[k]?.getD 0) : df T (k + 1) = df T k := by
  conv => lhs; unfold df
  rw [if_pos h]; rfl
theorem df_other (T : List Int) (k : Nat) (h : ¬ T[k]?.getD 0 = p37[k]?.getD 0) : df T (k + 1) = df T k + 1 := by
  conv => lhs; unfold df
  rw [if_neg h]
theorem df37 : df p37 256 = 0 := by kernel_rfl
theorem df500 : df p500 256 = 7 := by kernel_rfl
theorem df1047 : df p1047 256 = 6 := by kernel_rfl

theorem two_boxes (w : World) (T U : List Int) (hT : T.length = 256) (hU : U.length = 256) :
    ∃ W0 W1 W2, W0 = (w.alloc (.cells (tab z256) 25)).alloc (.cells (tab z256) 25) ∧
      (storeCells ⟨w.heap.size, 0, none⟩ (tab T).toList 0).run Try.prog ((w.alloc (.cells (tab z256) 25)).alloc (.cells (tab z256) 25)) = .ok () W1 ∧
      (storeCells ⟨w.heap.size + 1, 0, none⟩ (tab U).toList 0).run Try.prog W1 = .ok () W2 ∧ Below w.heap.size w W2 ∧
      W2.heap[w.heap.size]? = some (.cells (tab T) 25 (0, 0)) ∧ W2.heap[w.heap.size + 1]? = some (.cells (tab U) 25 (0, 0)) := by
  have h0 : ((w.alloc (.cells (tab z256) 25)).alloc (.cells (tab z256) 25)).heap[w.heap.size]? = some (.cells (tab z256) 25 (0, 0)) := by
    rw [Below.heap_alloc _ _ _ (by rw [World.size_alloc]; omega)]; exact heap_alloc_last w _
  have h1 : ((w.alloc (.cells (tab z256) 25)).alloc (.cells (tab z256) 25)).heap[w.heap.size + 1]? = some (.cells (tab z256) 25 (0, 0)) := by
    have := heap_alloc_last (w.alloc (.cells (tab z256) 25)) (.cells (tab z256) 25)
    rw [World.size_alloc] at this
    exact this
  have h1' := (setRow_other ((w.alloc (.cells (tab z256) 25)).alloc (.cells (tab z256) 25)) w.heap.size (w.heap.size + 1) (tab T) (by omega)).trans h1
  refine ⟨_, _, _, rfl, store_at _ _ _ _ h0 zeros_length hT, store_at _ _ _ _ h1' zeros_length hU, ?_, ?_, setRow_heap _ _ _ _ _ _ h1'⟩
  · exact below_setRow (below_setRow (((Below.refl _ w).alloc (Nat.le_refl _) _).alloc (by simp) _) (Nat.le_refl _) _) (by omega) _
  · rw [setRow_other _ _ _ _ (by omega)]; exact setRow_heap _ _ _ _ _ _ h0

theorem tab_cell (w wr : World) (g : Nat) (T : List Int) (hl : T.length = 256) (h : w.heap[g]? = some (.cells (tab T) 25 (0, 0))) (hB : Below w.heap.size w wr) (k : Nat) (hk : k < 256) :
    wr.cell? ⟨g, k, none⟩ = some (.int .i32 (T[k]?.getD 0)) := by
  refine cell_later hB ?_
  rw [cell_of_row _ _ _ _ _ _ h, tab_get T k (by omega)]
def TuRel (T : List Int) (W : World) (n i : Value) (wr : World) : Prop :=
  ∃ k : Nat, k ≤ 256 ∧ i = .int .i64 k ∧ n = .int .i64 (df T k : Nat) ∧ Below W.heap.size W wr

set_option maxRecDepth 100000 in
set_option maxHeartbeats 4000000 in
theorem codeTurns_walk (page : Int) (hp : (Lit.int .i64 page).wf = true) (a : Int) (ha : (Lit.int .u8 a).wf = true) (b : Int) (hb : (Lit.int .u8 b).wf = true) (w : World) :
    Calls Try.prog 5 #[.int .i64 page, .int .u8 a, .int .u8 b] w fun e w' => e = .returned (.bool true) ∧ Below w.heap.size w w' := by
  obtain ⟨a0, a1⟩ := u8_bd ha
  obtain ⟨b0, b1⟩ := u8_bd hb
  clear hp ha hb
  have hz := (zero_of_info info_tab).1
  obtain ⟨T, hT0⟩ : ∃ T, T = tabl page := ⟨_, rfl⟩
  have hlen : T.length = 256 := by rw [hT0]; exact tabl_length page
  have hT : Hid (∀ w, Calls Try.prog 17 #[.int .i64 page] w fun e w' => e = .returned (.agg (tab T)) ∧ Below w.heap.size w w') := by
    intro w; rw [hT0]; exact table_any page w
  have HT0 := Lib.hid hT0
  have HLEN := Lib.hid hlen
  have hbd : Hid (∀ x ∈ T, 0 ≤ x ∧ x ≤ 255) := by rw [hT0]; exact tabl_bd page
  have hsz : (tab T).size = 256 := by rw [tab_size]; exact hlen
  have hU : Hid (∀ w, Calls Try.prog 17 #[.int .i64 37] w fun e w' => e = .returned (.agg (tab p37)) ∧ Below w.heap.size w w') := fun w => table_any 37 w
  have husz : (tab p37).size = 256 := by rw [tab_size]; exact p37_length
  clear hT0 hlen
  obtain ⟨x, hx⟩ : ∃ x, x = sgn page a := ⟨_, rfl⟩
  have HX := Lib.hid hx.symm
  obtain ⟨y, hy⟩ : ∃ y, y = sgn page b := ⟨_, rfl⟩
  have HY := Lib.hid hy.symm
  have hxb := sgn_bd page a
  rw [← hx] at hxb
  obtain ⟨x0, x1⟩ := hxb
  have hbs := byt_sgn page a a0 a1
  rw [← hx] at hbs
  have HB := Lib.hid hbs
  obtain ⟨t, htx, hta⟩ : ∃ t : Bool, (x == y) = t ∧ (a == b) = t := by
    refine ⟨_, rfl, ?_⟩
    rw [Bool.eq_iff_iff]
    simp only [beq_iff_eq]
    constructor
    · intro h; rw [hx, hy, h]
    · intro h; exact sgn_inj page a b a0 a1 b0 b1 (by rw [← hx, ← hy, h])
  clear hx hy hbs
  have HRW : Hid ((Lit.int .i32 x).wf = true) := WalkArith.wf_i32 (by omega)
  go_enter Try.func5, Try.ntmps5
  go_wp2_with fail
  refine (alive1_any _).mono ?_
  rintro e w1 ⟨rfl, B1⟩
  go_wp2_with fail
  refine (to_int (sign_any page a _ a0 a1) HX.out).mono ?_
  rintro e w2 ⟨rfl, hb2⟩
  have B2 := B1.trans (hb2.mono B1.size)
  clear B1 hb2
  go_wp2_with fail
  refine (to_pair (byte_any page x _ HRW.out) HB.out.1 HB.out.2).mono ?_
  rintro e w3 ⟨rfl, hb3⟩
  have B3 := B2.trans (hb3.mono B2.size)
  clear B2 hb3
  go_wp2_with fail
  refine (to_int (sign_any page a _ a0 a1) HX.out).mono ?_
  rintro e w4 ⟨rfl, hb4⟩
  have B4 := B3.trans (hb4.mono B3.size)
  clear B3 hb4
  go_wp2_with fail
  refine (to_int (sign_any page b _ b0 b1) HY.out).mono ?_
  rintro e w5 ⟨rfl, hb5⟩
  have B5 := B4.trans (hb5.mono B4.size)
  clear B4 hb5
  go_wp2_with fail
  refine (hT.out _).mono ?_
  rintro e w6 ⟨rfl, hb6⟩
  have B6 := B5.trans (hb6.mono B5.size)
  clear B5 hb6
  go_wp2_with fail
  refine (hU.out _).mono ?_
  rintro e w7 ⟨rfl, hb7⟩
  have B7 := B6.trans (hb7.mono B6.size)
  clear B6 hb7
  obtain ⟨W0, W1, W2, hW0, hs1, hs2, hB2, hg1, hg2⟩ := two_boxes w7 T p37 HLEN.out p37_length
  have B8 := B7.trans (hB2.mono B7.size)
  have HW0 := Lib.hid hW0
  have HG := Lib.hid (And.intro hg1 hg2)
  clear hB2 B7 hW0 hg1 hg2
  go_wp2_with fail
  have hst : TuRel T W2 (.int .i64 0) (.int .i64 0) W2 := ⟨0, by omega, rfl, rfl, Below.refl _ _⟩
  go_loopw [9, 46] (TuRel T W2) (fun _ i _ => 256 - (intOf i).toNat)
  case atStart => exact hst
  case round =>
    obtain ⟨k, hk, rfl, rfl, hBw⟩ := hrel
    have hdk := df_le T k
    by_cases hlt : k < 256
    · have hk1 : (k : Int) < 256 := by omega
      have hc1 := tab_cell W2 wr _ T HLEN.out HG.out.1 hBw k hlt
      have hc2 := tab_cell W2 wr _ p37 p37_length HG.out.2 hBw k hlt
      have hzb : 0 ≤ T[k]?.getD 0 ∧ T[k]?.getD 0 ≤ 255 := by
        rw [List.getElem?_eq_getElem (by rw [HLEN.out]; exact hlt)]; exact hbd.out _ (List.getElem_mem _)
      have hds := df_same T k
      have hdo := df_other T k
      obtain ⟨z, hz2⟩ : ∃ z, z = T[k]?.getD 0 := ⟨_, rfl⟩
      obtain ⟨u, hu2⟩ : ∃ u, u = p37[k]?.getD 0 := ⟨_, rfl⟩
      rw [← hz2] at hc1 hzb hds hdo
      rw [← hu2] at hc2 hds hdo
      clear hz2 hu2
      obtain ⟨z0, z1⟩ := hzb
      have q1 : (z : Int) < 0 ↔ False := by simp; omega
      by_cases hzu : z = u
      · have hcc : (z != u) = false := by simp [hzu]
        have HD := Lib.hid (hds hzu)
        clear hds hdo hzu q1
        go_wp2_with fail
        go_quiet (fail)
        go_wp2_with fail
        go_roundw
        case rel => exact ⟨k + 1, by omega, by go_num, by rw [HD.out], below_drewN hBw _⟩
        case measure => simp [intOf]; omega
      · have hcc : (z != u) = true := by simp [hzu]
        have HD := Lib.hid (hdo hzu)
        clear hds hdo hzu q1
        obtain ⟨d, hd⟩ : ∃ d, d = df T k := ⟨_, rfl⟩
        rw [← hd] at hdk HD ⊢
        clear hd
        go_wp2_with fail
        go_quiet (fail)
        go_wp2_with fail
        go_roundw
        case rel => exact ⟨k + 1, by omega, by go_num, by rw [HD.out]; go_num, below_drewN hBw _⟩
        case measure => simp [intOf]; omega
    · obtain rfl : k = 256 := by omega
      have B9 := B8.trans (hBw.mono B8.size)
      clear hBw B8 hdk
      by_cases h5 : page = 500
      · have hd : df T 256 = 7 := by rw [HT0.out]; unfold tabl; rw [if_pos h5]; exact df500
        rw [hd]
        have hc5 : (page == 500) = true := by simpa using h5
        clear hd h5
        go_wp2_with fail
        go_ret
        exact ⟨rfl, B9⟩
      · by_cases h6 : page = 1047
        · have hd : df T 256 = 6 := by rw [HT0.out]; unfold tabl; rw [if_neg h5, if_pos h6]; exact df1047
          rw [hd]
          have hc5 : (page == 500) = false := by simpa using h5
          have hc6 : (page == 1047) = true := by simpa using h6
          clear hd h5 h6
          go_wp2_with fail
          go_ret
          exact ⟨rfl, B9⟩
        · have hd : df T 256 = 0 := by rw [HT0.out]; unfold tabl; rw [if_neg h5, if_neg h6]; exact df37
          rw [hd]
          have hc5 : (page == 500) = false := by simpa using h5
          have hc6 : (page == 1047) = false := by simpa using h6
          clear hd h5 h6
          go_wp2_with fail
          go_ret
          exact ⟨rfl, B9⟩

end Go.Proofs.Ytpmcpllcfmgpgaa.Code
