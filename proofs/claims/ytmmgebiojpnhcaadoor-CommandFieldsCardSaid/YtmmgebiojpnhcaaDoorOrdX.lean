/-
  Which orders may be written: isPlace, mayStand, isFit; check.
-/
import Derived.Test.YtmmgebiojpnhcaaDoorOrdW
namespace Go.Proofs.YtmmgebiojpnhcaaDoor.Ord
open Go.RowKit Base
set_option linter.unusedVariables false
set_option linter.unusedSimpArgs false

def plcM (k a n : Int) : Bool := !hasA k || decide (Dig.encE a n = 0)
set_option maxHeartbeats 4000000 in
theorem isPlace_any (k a b n : Int) (g : Bool) (vp vd : Value) (w : World) (a0 : -9223372036854775808 ≤ a) (a1 : a ≤ 9223372036854775807) : Calls Tryd.prog 65 #[.agg #[.int .u8 k, .int .i64 a, .int .u8 b, .bool g, vp, vd], .int .i64 n] w fun e w' => e = .returned (.bool (plcM k a n)) ∧ Below w.heap.size w w' := by
  unfold plcM
  rcases Bool.eq_false_or_eq_true (hasA k) with h | h
  · have hb := Lib.hid (below_alloc w (.cells #[.int .u8 k, .int .i64 a, .int .u8 b, .bool g, vp, vd] 92))
    obtain ⟨W1, hW1⟩ : ∃ W1, W1 = w.alloc (.cells #[.int .u8 k, .int .i64 a, .int .u8 b, .bool g, vp, vd] 92) := ⟨_, rfl⟩
    rw [← hW1] at hb
    have HW1 := Lib.hid hW1.symm
    clear hW1
    obtain ⟨E, hE⟩ : ∃ E, E = Dig.encE a n := ⟨_, rfl⟩
    have HE := Lib.hid (Dig.encode_any a n W1 a0 a1)
    rw [← hE] at HE
    rw [← hE, h]
    clear hE
    rcases Bool.eq_false_or_eq_true (E == 0) with c | c
    all_goals
      go_enter Tryd.func65, Tryd.ntmps65
      go_wp2_with fail
      refine (hasAddr_any k _).mono ?_
      rw [h]
      rintro e w' ⟨rfl, rfl⟩
      go_wp2_with fail
      rw [HW1.out]
      refine HE.out.mono ?_
      rintro e w2 ⟨rfl, b2⟩
      have HB := Lib.hid (hb.out.trans (b2.mono hb.out.size))
      clear b2
      go_wp2_with fail
      go_ret
      exact ⟨ret_bool (by simp at c; simp [c]), HB.out.alloc HB.out.size _⟩
  · go_enter Tryd.func65, Tryd.ntmps65
    go_wp2_with fail
    refine (hasAddr_any k _).mono ?_
    rw [h]
    rintro e w' ⟨rfl, rfl⟩
    go_wp2_with fail
    go_ret
    exact ⟨by rw [h]; rfl, below_alloc _ _⟩
def shnM (k b : Int) (g : Bool) (D : List Int) : Bool := if k = 8 then standsB b true else if k = 60 then standsB b g else if k = 29 then decide (b ≤ 63) else D.all plain
set_option maxRecDepth 100000 in
set_option maxHeartbeats 4000000 in
theorem mayStand_any (k a b : Int) (g : Bool) (vp vd : Value) (D : List Int) (w : World) (b0 : 0 ≤ b) (b1 : b ≤ 255) (h : RowOf .u8 w vd D) (hm : D.length ≤ 1000000) : Calls Tryd.prog 66 #[.agg #[.int .u8 k, .int .i64 a, .int .u8 b, .bool g, vp, vd]] w fun e w' => e = .returned (.bool (shnM k b g D)) ∧ Below w.heap.size w w' := by
  unfold shnM
  by_cases h8 : k = 8
  · subst h8
    go_enter Tryd.func66, Tryd.ntmps66
    go_wp2_with fail
    refine (stands_any b true _).mono ?_
    rintro e w' ⟨rfl, rfl⟩
    go_wp2_with fail
    go_ret
    exact ⟨rfl, below_alloc _ _⟩
  by_cases h60 : k = 60
  · subst h60
    go_enter Tryd.func66, Tryd.ntmps66
    go_wp2_with fail
    refine (stands_any b g _).mono ?_
    rintro e w' ⟨rfl, rfl⟩
    go_wp2_with fail
    go_ret
    exact ⟨rfl, below_alloc _ _⟩
  by_cases h29 : k = 29
  · subst h29
    obtain ⟨m, hm⟩ : ∃ m, m = b % 64 := ⟨_, rfl⟩
    have HV : Hid (∀ W, Calls Tryd.prog 56 #[.int .u8 b] W fun e w' => e = .returned (.int .i64 m) ∧ W = w') := Lib.hid fun W => by rw [hm]; exact value_any b W b0 (by omega)
    have HM := Lib.hid hm
    obtain ⟨W1, hW1⟩ : ∃ W1, W1 = w.alloc (.cells #[.int .u8 29, .int .i64 a, .int .u8 b, .bool g, vp, vd] 92) := ⟨_, rfl⟩
    have hbl := below_alloc w (.cells #[.int .u8 29, .int .i64 a, .int .u8 b, .bool g, vp, vd] 92)
    have hnw := heap_alloc_new w (.cells #[.int .u8 29, .int .i64 a, .int .u8 b, .bool g, vp, vd] 92)
    rw [← hW1] at hbl hnw
    obtain ⟨ob, hob⟩ : ∃ ob, ob = w.heap.size := ⟨_, rfl⟩
    rw [← hob] at hnw
    obtain ⟨c0, c1, c2, c3, c4, c5, _⟩ := cells6 hnw
    have HW1 := Lib.hid hW1.symm
    have HO := Lib.hid hob.symm
    have HBL := Lib.hid hbl
    have HC2 : Hid (∀ n, (W1.drewN n).cell? ⟨ob, 2, none⟩ = some (.int .u8 b)) := Lib.hid fun _ => c2
    have hwr : IntKind.i64.wrap b = b := IntWalk.i64_in _ (by omega)
    have c2d : W1.drew.cell? ⟨ob, 2, none⟩ = some (.int .u8 b) := c2
    clear hm h8 h60 h hW1 hob hbl hnw
    by_cases hb : b = m
    · have hc : (b == m) = true := by simpa using hb
      have hd : b ≤ 63 := by have := HM.out; omega
      have HD := Lib.hid hd
      clear hd hb
      go_enter Tryd.func66, Tryd.ntmps66
      go_upto_region 2 with fail
      rw [HW1.out, HO.out]
      go_upto_region 3 with fail
      clear c0 c1 c3 c4 c5
      first
      | (go_region_held3 (fun Z => Z.cell? ⟨ob, 2, none⟩ = some (.int .u8 b))
          (with_reducible (first | assumption | exact c2 | exact c2d | exact HC2.out _))
          (first | (go_at_call 56; refine (HV.out _).mono ?_; rintro e W10 ⟨rfl, rfl⟩)))
      | fail
      all_goals
        go_wp2_with fail
        go_ret
        exact ⟨ret_bool (by have := HD.out; simp [hc, this]), by first | exact HBL.out | exact HBL.out.drew⟩
    · have hc : (b == m) = false := by simpa using hb
      have hd : ¬ b ≤ 63 := by have := HM.out; omega
      have HD := Lib.hid hd
      clear hd hb
      go_enter Tryd.func66, Tryd.ntmps66
      go_upto_region 2 with fail
      rw [HW1.out, HO.out]
      go_upto_region 3 with fail
      clear c0 c1 c3 c4 c5
      first
      | (go_region_held3 (fun Z => Z.cell? ⟨ob, 2, none⟩ = some (.int .u8 b))
          (with_reducible (first | assumption | exact c2 | exact c2d | exact HC2.out _))
          (first | (go_at_call 56; refine (HV.out _).mono ?_; rintro e W10 ⟨rfl, rfl⟩)))
      | fail
      all_goals
        go_wp2_with fail
        go_ret
        exact ⟨ret_bool (by have := HD.out; simp [hc, this]), by first | exact HBL.out | exact HBL.out.drew⟩
  rw [if_neg h8, if_neg h60, if_neg h29]
  have c8 : (k == 8) = false := by simpa using h8
  have c60 : (k == 60) = false := by simpa using h60
  have c29 : (k == 29) = false := by simpa using h29
  clear h8 h60 h29
  obtain ⟨W1, hW1⟩ : ∃ W1, W1 = w.alloc (.cells #[.int .u8 k, .int .i64 a, .int .u8 b, .bool g, vp, vd] 92) := ⟨_, rfl⟩
  have hb := below_alloc w (.cells #[.int .u8 k, .int .i64 a, .int .u8 b, .bool g, vp, vd] 92)
  rw [← hW1] at hb
  have hr := h.below hb
  obtain ⟨da, dc, rfl, _⟩ := id h
  obtain ⟨_, _, e, hc⟩ := hr
  injection e with e1 _ e3
  subst e1 e3
  obtain ⟨n, hn⟩ : ∃ n, n = D.length := ⟨_, rfl⟩
  rw [← hn] at hm hW1 ⊢
  obtain ⟨B, hB⟩ : ∃ B, B = D.all plain := ⟨_, rfl⟩
  rw [← hB]
  have HB := Lib.hid hb
  have HW1 := Lib.hid hW1.symm
  have HC := Lib.hid hc
  have HN := Lib.hid hn
  have HBB := Lib.hid hB
  clear hb hW1 hc hn hB h
  go_enter Tryd.func66, Tryd.ntmps66
  go_upto_region 9 with fail
  rw [HW1.out]
  go_loopw [31] (fun i wr => ∃ k : Nat, k ≤ n ∧ i = .int .i64 k ∧ Hid ((D.take k).all plain = true) ∧ wr = W1) (fun i _ => n - (intOf i).toNat)
  case atStart => exact ⟨0, by omega, rfl, Lib.hid (by simp), rfl⟩
  case round =>
    obtain ⟨j, hj, rfl, hall, rfl⟩ := hrel
    by_cases hjn : j < n
    · have hjni : (j : Int) < (n : Int) := by omega
      have hj0 : (0 : Int) ≤ (j : Int) := Int.natCast_nonneg _
      obtain ⟨gg, off, rfl, hcc⟩ := HC.out (by intro e; have := HN.out; rw [e] at this; simp at this; omega)
      have hx := hcc j (by rw [← HN.out]; exact hjn)
      obtain ⟨x, hxx⟩ : ∃ x, D[j]? = some x := ⟨_, List.getElem?_eq_getElem (by rw [← HN.out]; exact hjn)⟩
      rw [hxx] at hx
      simp only [Option.getD_some] at hx
      have HX := Lib.hid hxx
      clear hcc hxx
      by_cases hp : plain x = true
      · have HP := Lib.hid hp
        clear hp
        go_wp2_with fail
        refine (stands_any x false _).mono ?_
        rw [show standsB x false = true from HP.out]
        rintro e w' ⟨rfl, rfl⟩
        go_wp2_with fail
        go_roundw
        case rel => exact ⟨j + 1, by omega, by go_num, Lib.hid (by rw [List.take_add_one, HX.out, List.all_append, hall.out]; simp [HP.out]), by trivial⟩
        case measure => simp [intOf]; omega
      · have HP : Hid (plain x = false) := Lib.hid (by simpa using hp)
        have hBf : B = false := by
          rw [HBB.out, List.all_eq_false]
          exact ⟨x, List.mem_of_getElem? HX.out, by rw [HP.out]; simp⟩
        subst hBf
        clear hp
        go_wp2_with fail
        refine (stands_any x false _).mono ?_
        rw [show standsB x false = false from HP.out]
        rintro e w' ⟨rfl, rfl⟩
        go_wp2_with fail
        go_ret
        exact ⟨rfl, HB.out⟩
    · obtain rfl : n = j := by omega
      have hBt : B = true := by
        rw [HBB.out]
        have := hall.out
        rwa [List.take_of_length_le (by rw [← HN.out]; exact Nat.le_refl _)] at this
      subst hBt
      go_wp2_with fail
      go_ret
      exact ⟨rfl, HB.out⟩
def fitM (k : Int) (ps : List (Int × Int)) : Bool := ps.all fun p => Attr.chk k p.1 p.2
set_option maxRecDepth 100000 in
set_option maxHeartbeats 4000000 in
theorem isFit_any (k a b : Int) (g : Bool) (vp vd : Value) (ps : List (Int × Int)) (w : World) (h : PrAt w vp ps) (hm : ps.length ≤ 1000000) : Calls Tryd.prog 67 #[.agg #[.int .u8 k, .int .i64 a, .int .u8 b, .bool g, vp, vd]] w fun e w' => e = .returned (.bool (fitM k ps)) ∧ Below w.heap.size w w' := by
  obtain ⟨W1, hW1⟩ : ∃ W1, W1 = w.alloc (.cells #[.int .u8 k, .int .i64 a, .int .u8 b, .bool g, vp, vd] 92) := ⟨_, rfl⟩
  have hb := below_alloc w (.cells #[.int .u8 k, .int .i64 a, .int .u8 b, .bool g, vp, vd] 92)
  have hnw := heap_alloc_new w (.cells #[.int .u8 k, .int .i64 a, .int .u8 b, .bool g, vp, vd] 92)
  rw [← hW1] at hb hnw
  obtain ⟨ob, hob⟩ : ∃ ob, ob = w.heap.size := ⟨_, rfl⟩
  rw [← hob] at hnw
  have hr := h.below hb
  obtain ⟨pa, pc, rfl, _⟩ := id h
  obtain ⟨_, _, e, hc⟩ := hr
  injection e with e1 _ e3
  subst e1 e3
  obtain ⟨n, hn⟩ : ∃ n, n = ps.length := ⟨_, rfl⟩
  rw [← hn] at hm hW1 hnw ⊢
  obtain ⟨B, hB⟩ : ∃ B, B = fitM k ps := ⟨_, rfl⟩
  rw [← hB]
  have HB := Lib.hid hb
  have HW1 := Lib.hid hW1.symm
  have HC := Lib.hid hc
  have HN := Lib.hid hn
  have HBB := Lib.hid hB
  have HO := Lib.hid hob.symm
  have HNW := Lib.hid hnw
  clear hb hW1 hc hn hB h hob hnw
  go_enter Tryd.func67, Tryd.ntmps67
  go_upto_region 2 with fail
  rw [HW1.out, HO.out]
  go_loopw [8] (fun i wr => ∃ j : Nat, j ≤ n ∧ i = .int .i64 j ∧ Hid (fitM k (ps.take j) = true) ∧ Hid (Below W1.heap.size W1 wr)) (fun i _ => n - (intOf i).toNat)
  case atStart => exact ⟨0, by omega, rfl, Lib.hid (by simp [fitM]), Lib.hid (Below.refl _ _)⟩
  case round =>
    obtain ⟨j, hj, rfl, hall, hold⟩ := hrel
    by_cases hjn : j < n
    · have hjni : (j : Int) < (n : Int) := by omega
      have hj0 : (0 : Int) ≤ (j : Int) := Int.natCast_nonneg _
      obtain ⟨gg, off, rfl, hcc⟩ := HC.out (by intro e; have := HN.out; rw [e] at this; simp at this; omega)
      obtain ⟨x, hxx⟩ : ∃ x, ps[j]? = some x := ⟨_, List.getElem?_eq_getElem (by rw [← HN.out]; exact hjn)⟩
      obtain ⟨d0, d1⟩ := hcc j x hxx
      obtain ⟨x1, x2⟩ := x
      simp only at d0 d1
      have d0 := (hold.out.cell (p := ⟨_, _, none⟩) (World.block_lt_of_cell? W1 ⟨_, _, none⟩ d0)).trans d0
      have d1 := (hold.out.cell (p := ⟨_, _, none⟩) (World.block_lt_of_cell? W1 ⟨_, _, none⟩ d1)).trans d1
      have c0 : wr.cell? ⟨ob, 0, none⟩ = some (.int .u8 k) := (cells6 ((hold.out.block ob (lt_of_block HNW.out)).trans HNW.out)).1
      have c1 : (wr.alloc (.cells #[.int .u8 x1, .int .u8 x2] 117)).cell? ⟨ob, 0, none⟩ = some (.int .u8 k) := (cell_block (Below.heap_alloc _ _ _ (World.block_lt_of_cell? wr ⟨ob, 0, none⟩ c0)) _).trans c0
      have HX := Lib.hid hxx
      have hal := (hold.out.alloc hold.out.size (.cells #[.int .u8 x1, .int .u8 x2] 117))
      have HAL := Lib.hid hal
      have HCK := Lib.hid (Attr.check_any k x1 x2 (wr.alloc (.cells #[.int .u8 x1, .int .u8 x2] 117)))
      clear hcc hxx hal
      by_cases hp : Attr.chk k x1 x2 = true
      · have HP := Lib.hid hp
        have hE : Attr.chkE k x1 x2 = 0 := by unfold Attr.chkE; rw [if_pos hp]
        rw [hE] at HCK
        clear hp hE
        go_wp2_with fail
        refine HCK.out.mono ?_
        rintro e w2 ⟨rfl, b2⟩
        have HB2 := Lib.hid (HAL.out.trans (b2.mono HAL.out.size))
        clear b2
        go_wp2_with fail
        go_roundw
        case rel => exact ⟨j + 1, by omega, by go_num, Lib.hid (by have := hall.out; unfold fitM at this ⊢; rw [List.take_add_one, HX.out, List.all_append, this]; simp [HP.out]), HB2⟩
        case measure => simp [intOf]; omega
      · have hBf : B = false := by
          rw [HBB.out]
          unfold fitM
          rw [List.all_eq_false]
          exact ⟨(x1, x2), List.mem_of_getElem? HX.out, hp⟩
        subst hBf
        have hE : Attr.chkE k x1 x2 = 33 := by unfold Attr.chkE; rw [if_neg hp]
        rw [hE] at HCK
        clear hp hE
        go_wp2_with fail
        refine HCK.out.mono ?_
        rintro e w2 ⟨rfl, b2⟩
        have HB2 := Lib.hid (HB.out.trans ((HAL.out.trans (b2.mono HAL.out.size)).mono HB.out.size))
        clear b2
        go_wp2_with fail
        go_ret
        exact ⟨rfl, HB2.out⟩
    · obtain rfl : n = j := by omega
      have hBt : B = true := by
        rw [HBB.out]
        have := hall.out
        rwa [List.take_of_length_le (by rw [← HN.out]; exact Nat.le_refl _)] at this
      subst hBt
      have HB2 := Lib.hid (HB.out.trans (hold.out.mono HB.out.size))
      go_wp2_with fail
      go_ret
      exact ⟨rfl, HB2.out⟩
end Go.Proofs.YtmmgebiojpnhcaaDoor.Ord
