/-
  The reference's talk: its New and Basic.
-/
import Derived.Test.YtimidoaafllnkaaRTalkA
import Derived.Test.YtimidoaafllnkaaTalkE
namespace Go.Proofs.Ytimidoaafllnkaa.Talk
open Go.RowKit Base Opt
set_option linter.unusedVariables false
set_option linter.unusedSimpArgs false

theorem info_rt : (Try.prog.info? 48).map (fun i => (i.zero, i.size)) = some (some (.agg #[.string ⟨#[]⟩, .slice none 0 0, .slice none 0 0, .slice none 0 0, .bool false]), 5) := by kernel_rfl
theorem size_rt : (Try.prog.info? 48).map (·.size) = some 5 := by kernel_rfl
theorem row_lit (W : World) (L : List Int) (cs : Array Value) (hcs : cs.toList = L.map (Value.int .u8)) (n c : Nat) (hn : n = L.length) : RowOf .u8 (W.alloc (.cells cs 5)) (.slice (some ⟨W.heap.size, 0, none⟩) n c) L := by
  subst hn
  refine ⟨_, c, rfl, fun _ => ⟨_, 0, rfl, fun i hi => ?_⟩⟩
  have h := heap_alloc_new W (.cells cs 5)
  have hv : cs[i]? = some (.int .u8 (L[i]?.getD 0)) := by
    rw [← Array.getElem?_toList, hcs, List.getElem?_map, List.getElem?_eq_getElem hi]
    rfl
  rw [Nat.zero_add]
  simp only [World.cell?, h]
  exact hv
set_option maxRecDepth 100000 in
set_option maxHeartbeats 4000000 in
theorem rnew_any (s : ByteArray) (ext : Bool) (w : World) (hs : s.size ≤ 1000) : Calls Try.prog 26 #[.string s, .bool ext] w fun e w' => ∃ ua un uc va vn vc, e = .returned (.agg #[.string (cleaned s), .slice none 0 0, .slice ua un uc, .slice va vn vc, .bool false]) ∧ RowOf .u8 w' (.slice ua un uc) (oursL ext) ∧ RowOf .u8 w' (.slice va vn vc) [0, 25] ∧ Below w.heap.size w w' := by
  have hzero := (zero_of_info info_rt).1
  have HNM := Lib.hid fun w => rname_any s w hs
  have sz : ∀ (W : World) (o : Obj), (W.alloc o).heap.size = W.heap.size + 1 := fun W o => World.size_alloc W o
  cases ext
  · obtain ⟨C, hC⟩ : ∃ C : Obj, C = .cells #[.string (cleaned s), .slice none 0 0, .slice (some ⟨w.heap.size + 1, 0, none⟩) 3 3, .slice (some ⟨w.heap.size + 1 + 1, 0, none⟩) 2 2, .bool false] 48 := ⟨_, rfl⟩
    have b1 := below_alloc w C
    have b2 := below_alloc (w.alloc C) (.cells #[.int .u8 0, .int .u8 24, .int .u8 25] 5)
    have b3 := below_alloc ((w.alloc C).alloc (.cells #[.int .u8 0, .int .u8 24, .int .u8 25] 5)) (.cells #[.int .u8 0, .int .u8 25] 5)
    have r1 := (row_lit (w.alloc C) [0, 24, 25] #[.int .u8 0, .int .u8 24, .int .u8 25] rfl 3 3 rfl).below b3
    have r2 := row_lit ((w.alloc C).alloc (.cells #[.int .u8 0, .int .u8 24, .int .u8 25] 5)) [0, 25] #[.int .u8 0, .int .u8 25] rfl 2 2 rfl
    have hb := (b1.trans (b2.mono b1.size)).trans (b3.mono (Nat.le_trans b1.size b2.size))
    have hfin := (b3.block w.heap.size (by rw [sz, sz]; omega)).trans ((b2.block w.heap.size (by rw [sz]; omega)).trans (heap_alloc_new w C))
    rw [sz] at r1
    rw [sz, sz] at r2
    rw [hC] at r1 r2 hb hfin
    have HFIN := Lib.hid hfin
    have HR1 := Lib.hid r1
    have HR2 := Lib.hid r2
    have HB := Lib.hid hb
    clear b1 b2 b3 r1 r2 hb hfin hC sz
    go_enter Try.func26, Try.ntmps26
    go_wp2_with fail
    refine (HNM.out _).mono ?_
    rintro e w' ⟨rfl, rfl⟩
    go_wp2_with fail
    (try simp only [Exit.inBlock, Exit.then])
    refine bodyPost_ret (results_cell_row rfl _ _ w.heap.size 48 _ (0, 0) _ rfl HFIN.out Try.underlying48 rfl size_rt) rfl ?_
    exact ⟨_, _, _, _, _, _, rfl, HR1.out, HR2.out, HB.out⟩
  · obtain ⟨C, hC⟩ : ∃ C : Obj, C = .cells #[.string (cleaned s), .slice none 0 0, .slice (some ⟨w.heap.size + 1 + 1, 0, none⟩) 4 4, .slice (some ⟨w.heap.size + 1 + 1 + 1, 0, none⟩) 2 2, .bool false] 48 := ⟨_, rfl⟩
    have b1 := below_alloc w C
    have b2 := below_alloc (w.alloc C) (.cells #[.int .u8 0, .int .u8 24, .int .u8 25] 5)
    have b3 := below_alloc ((w.alloc C).alloc (.cells #[.int .u8 0, .int .u8 24, .int .u8 25] 5)) (.cells #[.int .u8 0, .int .u8 24, .int .u8 25, .int .u8 40] 5)
    have b4 := below_alloc (((w.alloc C).alloc (.cells #[.int .u8 0, .int .u8 24, .int .u8 25] 5)).alloc (.cells #[.int .u8 0, .int .u8 24, .int .u8 25, .int .u8 40] 5)) (.cells #[.int .u8 0, .int .u8 25] 5)
    have r1 := (row_lit ((w.alloc C).alloc (.cells #[.int .u8 0, .int .u8 24, .int .u8 25] 5)) [0, 24, 25, 40] #[.int .u8 0, .int .u8 24, .int .u8 25, .int .u8 40] rfl 4 4 rfl).below b4
    have r2 := row_lit (((w.alloc C).alloc (.cells #[.int .u8 0, .int .u8 24, .int .u8 25] 5)).alloc (.cells #[.int .u8 0, .int .u8 24, .int .u8 25, .int .u8 40] 5)) [0, 25] #[.int .u8 0, .int .u8 25] rfl 2 2 rfl
    have hb := ((b1.trans (b2.mono b1.size)).trans (b3.mono (Nat.le_trans b1.size b2.size))).trans (b4.mono (Nat.le_trans b1.size (Nat.le_trans b2.size b3.size)))
    have hfin := (b4.block w.heap.size (by rw [sz, sz, sz]; omega)).trans ((b3.block w.heap.size (by rw [sz, sz]; omega)).trans ((b2.block w.heap.size (by rw [sz]; omega)).trans (heap_alloc_new w C)))
    rw [sz, sz] at r1
    rw [sz, sz, sz] at r2
    rw [hC] at r1 r2 hb hfin
    have HFIN := Lib.hid hfin
    have HR1 := Lib.hid r1
    have HR2 := Lib.hid r2
    have HB := Lib.hid hb
    clear b1 b2 b3 b4 r1 r2 hb hfin hC sz
    go_enter Try.func26, Try.ntmps26
    go_wp2_with fail
    refine (HNM.out _).mono ?_
    rintro e w' ⟨rfl, rfl⟩
    go_wp2_with fail
    (try simp only [Exit.inBlock, Exit.then])
    refine bodyPost_ret (results_cell_row rfl _ _ w.heap.size 48 _ (0, 0) _ rfl HFIN.out Try.underlying48 rfl size_rt) rfl ?_
    exact ⟨_, _, _, _, _, _, rfl, HR1.out, HR2.out, HB.out⟩
def rbasicB (nd : Bool) (L : List One) : Bool := nd && (decide (stL L true 0 = 1) && (decide (stL L false 0 = 1) && (decide (stL L true 25 = 1) && decide (stL L false 25 = 1))))
set_option maxRecDepth 100000 in
set_option maxHeartbeats 4000000 in
theorem rbasic_any (base : Nat) (nm : ByteArray) (xa ua va : Option Addr) (xn xc un uc vn vc : Nat) (nd : Bool) (L : List One) (w : World) (h : OneRow base w (.slice xa xn xc) L) (hl : L.length ≤ 1000) :
    Calls Try.prog 33 #[.agg #[.string nm, .slice xa xn xc, .slice ua un uc, .slice va vn vc, .bool nd]] w fun e w' => e = .returned (.bool (rbasicB nd L)) ∧ Below w.heap.size w w' := by
  have hb := below_alloc w (.cells #[.string nm, .slice xa xn xc, .slice ua un uc, .slice va vn vc, .bool nd] 48)
  have hn := heap_alloc_new w (.cells #[.string nm, .slice xa xn xc, .slice ua un uc, .slice va vn vc, .bool nd] 48)
  obtain ⟨W, hW⟩ : ∃ W, W = w.alloc (.cells #[.string nm, .slice xa xn xc, .slice ua un uc, .slice va vn vc, .bool nd] 48) := ⟨_, rfl⟩
  rw [← hW] at hb hn
  obtain ⟨tb, htb⟩ : ∃ tb, tb = w.heap.size := ⟨_, rfl⟩
  rw [← htb] at hn
  have HW := Lib.hid hW.symm
  have HB := Lib.hid hb
  have HTB := Lib.hid htb.symm
  obtain ⟨b0, h0⟩ : ∃ b, b = decide (stL L true 0 = 1) := ⟨_, rfl⟩
  obtain ⟨b1, h1⟩ : ∃ b, b = decide (stL L false 0 = 1) := ⟨_, rfl⟩
  obtain ⟨b2, h2⟩ : ∃ b, b = decide (stL L true 25 = 1) := ⟨_, rfl⟩
  obtain ⟨b3, h3⟩ : ∃ b, b = decide (stL L false 25 = 1) := ⟨_, rfl⟩
  have on : ∀ (ours : Bool) (o : Nat) (Z : World), Below w.heap.size w Z → Calls Try.prog 35 #[.agg #[.string nm, .slice xa xn xc, .slice ua un uc, .slice va vn vc, .bool nd], .bool ours, .int .u8 o] Z fun e w' => e = .returned (.bool (decide (stL L ours o = 1))) ∧ Below Z.heap.size Z w' := fun ours o Z hz => ron_any base nm _ _ _ nd L ours o Z (h.below hz) hl
  have on0 := on true 0
  have on1 := on false 0
  have on2 := on true 25
  have on3 := on false 25
  rw [← h0] at on0
  rw [← h1] at on1
  rw [← h2] at on2
  rw [← h3] at on3
  have ON0 := Lib.hid on0
  have ON1 := Lib.hid on1
  have ON2 := Lib.hid on2
  have ON3 := Lib.hid on3
  have hc : ∀ Z, Below W.heap.size W Z → Z.cell? ⟨tb, 0, none⟩ = some (.string nm) ∧ Z.cell? ⟨tb, 1, none⟩ = some (.slice xa xn xc) ∧ Z.cell? ⟨tb, 2, none⟩ = some (.slice ua un uc) ∧ Z.cell? ⟨tb, 3, none⟩ = some (.slice va vn vc) ∧ Z.cell? ⟨tb, 4, none⟩ = some (.bool nd) := fun Z hz => by
    have e := (hz.block tb (lt_of_block hn)).trans hn
    simp [World.cell?, e]
  have HC := Lib.hid hc
  have hres : rbasicB nd L = (nd && (b0 && (b1 && (b2 && b3)))) := by rw [h0, h1, h2, h3]; rfl
  rw [hres]
  clear hW hb hn htb h0 h1 h2 h3 on on0 on1 on2 on3 hres hc h
  have step : ∀ Z, Below w.heap.size w Z → True := fun _ _ => trivial
  clear step
  cases nd
  · obtain ⟨c0, c1, c2, c3, c4⟩ := HC.out W (Below.refl _ _)
    go_enter Try.func33, Try.ntmps33
    go_upto_region 1 with fail
    rw [HW.out, HTB.out]
    go_wp2_with fail
    go_ret
    exact ⟨rfl, HB.out⟩
  · cases b0
    · obtain ⟨c0, c1, c2, c3, c4⟩ := HC.out W (Below.refl _ _)
      go_enter Try.func33, Try.ntmps33
      go_upto_region 1 with fail
      rw [HW.out, HTB.out]
      go_wp2_with fail
      refine (ON0.out W HB.out).mono ?_
      rintro e Z1 ⟨rfl, t1⟩
      have HZ1 := Lib.hid (HB.out.trans (t1.mono HB.out.size))
      clear t1
      go_wp2_with fail
      go_ret
      exact ⟨rfl, HZ1.out⟩
    · cases b1
      · obtain ⟨c0, c1, c2, c3, c4⟩ := HC.out W (Below.refl _ _)
        go_enter Try.func33, Try.ntmps33
        go_upto_region 1 with fail
        rw [HW.out, HTB.out]
        go_wp2_with fail
        refine (ON0.out W HB.out).mono ?_
        rintro e Z1 ⟨rfl, t1⟩
        have HZ1 := Lib.hid (HB.out.trans (t1.mono HB.out.size))
        have HT1 := Lib.hid t1
        clear t1 c0 c1 c2 c3 c4
        obtain ⟨c0, c1, c2, c3, c4⟩ := HC.out Z1 HT1.out
        go_wp2_with fail
        refine (ON1.out Z1 HZ1.out).mono ?_
        rintro e Z2 ⟨rfl, t2⟩
        have HZ2 := Lib.hid (HZ1.out.trans (t2.mono HZ1.out.size))
        clear t2
        go_wp2_with fail
        go_ret
        exact ⟨rfl, HZ2.out⟩
      · cases b2
        all_goals
          obtain ⟨c0, c1, c2, c3, c4⟩ := HC.out W (Below.refl _ _)
          go_enter Try.func33, Try.ntmps33
          go_upto_region 1 with fail
          rw [HW.out, HTB.out]
          go_wp2_with fail
          refine (ON0.out W HB.out).mono ?_
          rintro e Z1 ⟨rfl, t1⟩
          have HZ1 := Lib.hid (HB.out.trans (t1.mono HB.out.size))
          have HT1 := Lib.hid t1
          clear t1 c0 c1 c2 c3 c4
          obtain ⟨c0, c1, c2, c3, c4⟩ := HC.out Z1 HT1.out
          go_wp2_with fail
          refine (ON1.out Z1 HZ1.out).mono ?_
          rintro e Z2 ⟨rfl, t2⟩
          have HZ2 := Lib.hid (HZ1.out.trans (t2.mono HZ1.out.size))
          have HT2 := Lib.hid (HT1.out.trans (t2.mono HT1.out.size))
          clear t2 c0 c1 c2 c3 c4
          obtain ⟨c0, c1, c2, c3, c4⟩ := HC.out Z2 HT2.out
          go_wp2_with fail
          refine (ON2.out Z2 HZ2.out).mono ?_
          rintro e Z3 ⟨rfl, t3⟩
          have HZ3 := Lib.hid (HZ2.out.trans (t3.mono HZ2.out.size))
          have HT3 := Lib.hid (HT2.out.trans (t3.mono HT2.out.size))
          clear t3 c0 c1 c2 c3 c4
          obtain ⟨c0, c1, c2, c3, c4⟩ := HC.out Z3 HT3.out
          go_wp2_with fail
        · go_ret
          exact ⟨rfl, HZ3.out⟩
        · refine (ON3.out Z3 HZ3.out).mono ?_
          rintro e Z4 ⟨rfl, t4⟩
          have HZ4 := Lib.hid (HZ3.out.trans (t4.mono HZ3.out.size))
          clear t4
          go_wp2_with fail
          go_ret
          exact ⟨rfl, HZ4.out⟩
end Go.Proofs.Ytimidoaafllnkaa.Talk
