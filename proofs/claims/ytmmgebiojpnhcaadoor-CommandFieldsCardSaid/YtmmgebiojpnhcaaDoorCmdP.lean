/-
  The statements' own example.
-/
import Derived.Test.YtmmgebiojpnhcaaDoorCmdO
import Derived.Test.YtmmgebiojpnhcaaDoorCmdN
namespace Go.Proofs.YtmmgebiojpnhcaaDoor.Cmd
open Go.RowKit Base Go.Proofs.YtmmgebiojpnhcaaDoor.Ord
set_option linter.unusedVariables false
set_option linter.unusedSimpArgs false

theorem own_lit (W : World) (A : Array Value) (L : List Int) (hA : A.toList = L.map (Value.int .u8)) (hm : A.size ≤ maxLen) (n : Nat) (hn : n = A.size) : OwnBytes W.heap.size (W.alloc (.cells A 5)) (.slice (some ⟨W.heap.size, 0, none⟩) n n) L := by
  subst hn
  have hl : L.length = A.size := by
    have := congrArg List.length hA
    simpa using this.symm
  unfold OwnBytes
  rw [hl]
  exact ⟨by simp [hl], .inr ⟨W.heap.size, A.size, A, rfl, Nat.le_refl _, heap_alloc_new W _, Nat.le_refl _, hm, by simp, by rw [← hA, Nat.mul_one]; exact List.take_of_length_le (by simp)⟩⟩
def al1 : Or := ⟨17, 0, 0, false, [], []⟩
def alc : Cm := ⟨245, 195, [al1], 0, []⟩
def ald : Cm := ⟨243, 0, [], 34, [⟨1, 2, 0, 0, [], 0⟩]⟩
theorem al_c : cmdM [245, 195, 17, 64, 64] = (alc, 0) := by with_unfolding_all rfl
theorem al_f : cmdM [241] = (Cm.zero, 20) := by with_unfolding_all rfl
theorem al_g : cmdM [32] = (Cm.zero, 30) := by with_unfolding_all rfl
theorem al_d : cmdM [17, 0, 5, 1, 255, 2, 0, 1] = (ald, 0) := by with_unfolding_all rfl
theorem al_e : oneE alc 80 = 0 := by decide +kernel
theorem al_b : oneB alc 80 = [245, 195, 17, 64, 64] := by decide +kernel
theorem al_n5 : nameK 5 = ⟨#[69, 87]⟩ := by decide +kernel
theorem al_n0 : nameK 0 = ⟨#[]⟩ := by decide +kernel
theorem al_same1 : alikeK alc alc = true := by decide +kernel
theorem al_same2 : alikeK alc ald = false := by decide +kernel
theorem al_ok : OsOk alc.ords := ⟨by decide, fun o ho => by obtain rfl : o = al1 := by simpa [alc] using ho
                                                            exact ⟨by decide, fun x hx => by simp [al1] at hx⟩⟩
theorem al_okd : OsOk ald.ords := ⟨by decide, fun o ho => by simp [ald] at ho⟩
theorem al_ok4 : OsOk4 alc.ords 80 := ⟨by decide, fun o ho => by obtain rfl : o = al1 := by simpa [alc] using ho
                                                                 exact ⟨by decide, by decide, by decide, by decide, by decide, by decide⟩, by decide +kernel⟩
/-- What the example holds. -/
structure ALQ (w : World) (g h : Nat) (vo vf vo2 vf2 : Value) (W : World) : Prop where
  old : Below w.heap.size w W
  tb : Tbl W
  c : W.heap[g]? = some (.cells #[.int .u8 245, .int .u8 195, vo, .int .i64 0, vf] 28 (0, 0))
  d : W.heap[h]? = some (.cells #[.int .u8 243, .int .u8 0, vo2, .int .i64 34, vf2] 28 (0, 0))
  rc : CmR W alc (.agg #[.int .u8 245, .int .u8 195, vo, .int .i64 0, vf])
  rd : CmR W ald (.agg #[.int .u8 243, .int .u8 0, vo2, .int .i64 34, vf2])
theorem ALQ.below {w W W' : World} {g h : Nat} {vo vf vo2 vf2 : Value} (k : ALQ w g h vo vf vo2 vf2 W) (t : Below W.heap.size W W') : ALQ w g h vo vf vo2 vf2 W' :=
  ⟨k.old.trans (t.mono k.old.size), k.tb.below t, (t.block _ (lt_of_block k.c)).trans k.c, (t.block _ (lt_of_block k.d)).trans k.d, k.rc.below t, k.rd.below t⟩
theorem zero_form {s : Nat} {w : World} {V : Value} (h : CmV s w Cm.zero V) : ∃ (a b : Option Addr) (m c k d : Nat), V = .agg #[.int .u8 0, .int .u8 0, .slice a m c, .int .i64 0, .slice b k d] := by
  obtain ⟨vo, vf, P, Q, rfl, h1, _, h2, _⟩ := h
  obtain ⟨a, c, rfl⟩ := h1.form
  obtain ⟨b, d, rfl⟩ := h2.form
  exact ⟨a, b, _, _, _, _, rfl⟩
set_option maxRecDepth 100000 in
set_option maxHeartbeats 8000000 in
theorem cmd_alive {w : World} (ht : Tbl w) : Calls Tryd.prog 7 #[] w fun e w' => e = .returned (.bool true) ∧ Below w.heap.size w w' := by
  have HT := Lib.hid ht
  have hp1 := cparse_any (ht.below (below_alloc w (.cells #[.int .u8 245, .int .u8 195, .int .u8 17, .int .u8 64, .int .u8 64] 5))) _ [245, 195, 17, 64, 64] (own_lit w #[.int .u8 245, .int .u8 195, .int .u8 17, .int .u8 64, .int .u8 64] [245, 195, 17, 64, 64] rfl (by decide) 5 rfl).cut (by decide) (by decide)
  rw [al_c] at hp1
  have HP1 := Lib.hid hp1
  clear hp1 ht
  go_enter Tryd.func7, Tryd.ntmps7
  go_wp2_with fail
  refine HP1.out.mono ?_
  rintro e W1 ⟨V1, rfl, hv1, b1⟩
  have B1 := Lib.hid ((below_alloc w (.cells #[.int .u8 245, .int .u8 195, .int .u8 17, .int .u8 64, .int .u8 64] 5)).trans (b1.mono (by rw [World.size_alloc]; omega)))
  obtain ⟨vo, vf, P, Q, rfl, hP, hPm, hQ, hQm⟩ := hv1
  have HR1 := Lib.hid (show CmR W1 alc (.agg #[.int .u8 245, .int .u8 195, vo, .int .i64 0, vf]) from CmV.r ⟨vo, vf, P, Q, rfl, hP, hPm, hQ, hQm⟩)
  have hl1 : P.length = 1 := by have := congrArg List.length hPm; simpa [alc] using this
  have hl2 : Q.length = 0 := by have := congrArg List.length hQm; simpa [alc] using this
  obtain ⟨oa, oc, rfl⟩ := hP.form
  obtain ⟨fa, fc, rfl⟩ := hQ.form
  rw [hl1, hl2] at HR1 ⊢
  clear hP hPm hQ hQm hl1 hl2 b1 HP1
  simp only [alc]
  have b2 := below_alloc W1 (.cells #[.int .u8 245, .int .u8 195, .slice oa 1 oc, .int .i64 0, .slice fa 0 fc] 28)
  have k2 := heap_alloc_new W1 (.cells #[.int .u8 245, .int .u8 195, .slice oa 1 oc, .int .i64 0, .slice fa 0 fc] 28)
  obtain ⟨W2, hW2⟩ : ∃ W2, W2 = W1.alloc (.cells #[.int .u8 245, .int .u8 195, .slice oa 1 oc, .int .i64 0, .slice fa 0 fc] 28) := ⟨_, rfl⟩
  obtain ⟨g, hg⟩ : ∃ g, g = W1.heap.size := ⟨_, rfl⟩
  rw [← hW2] at b2 k2
  rw [← hg] at k2
  have HW2 := Lib.hid hW2.symm
  have HG := Lib.hid hg.symm
  have B2 := Lib.hid (B1.out.trans (b2.mono B1.out.size))
  have K2 := Lib.hid k2
  have R2 := Lib.hid (HR1.out.below b2)
  clear b2 k2 hW2 hg HR1
  have hp2 := cparse_any ((HT.out.below B2.out).below (below_alloc W2 (.cells #[.int .u8 241] 5))) _ [241] (own_lit W2 #[.int .u8 241] [241] rfl (by decide) 1 rfl).cut (by decide) (by decide)
  rw [al_f] at hp2
  have HP2 := Lib.hid hp2
  clear hp2
  go_upto_region 2 with fail
  rw [HW2.out, HG.out]
  go_wp2_with fail
  refine HP2.out.mono ?_
  rintro e W3 ⟨V3, rfl, hv3, b3⟩
  have B3 := Lib.hid ((below_alloc W2 (.cells #[.int .u8 241] 5)).trans (b3.mono (by rw [World.size_alloc]; omega)))
  obtain ⟨za, zb, zm, zc, zk, zd, rfl⟩ := zero_form hv3
  clear hv3 b3 HP2
  have b4 := B3.out.trans ((below_alloc W3 (.cells #[.int .u8 0, .int .u8 0, .slice za zm zc, .int .i64 0, .slice zb zk zd] 28)).mono B3.out.size)
  obtain ⟨W4, hW4⟩ : ∃ W4, W4 = W3.alloc (.cells #[.int .u8 0, .int .u8 0, .slice za zm zc, .int .i64 0, .slice zb zk zd] 28) := ⟨_, rfl⟩
  rw [← hW4] at b4
  have HW4 := Lib.hid hW4.symm
  have B4 := Lib.hid (B2.out.trans (b4.mono B2.out.size))
  have K4 := Lib.hid ((b4.block _ (lt_of_block K2.out)).trans K2.out)
  have R4 := Lib.hid (R2.out.below b4)
  clear b4 hW4 K2 R2 B3
  have hp3 := cparse_any ((HT.out.below B4.out).below (below_alloc W4 (.cells #[.int .u8 32] 5))) _ [32] (own_lit W4 #[.int .u8 32] [32] rfl (by decide) 1 rfl).cut (by decide) (by decide)
  rw [al_g] at hp3
  have HP3 := Lib.hid hp3
  clear hp3
  go_upto_region 3 with fail
  rw [HW4.out]
  go_wp2_with fail
  refine HP3.out.mono ?_
  rintro e W5 ⟨V5, rfl, hv5, b5⟩
  have B5 := Lib.hid ((below_alloc W4 (.cells #[.int .u8 32] 5)).trans (b5.mono (by rw [World.size_alloc]; omega)))
  obtain ⟨ya, yb, ym, yc, yk, yd, rfl⟩ := zero_form hv5
  clear hv5 b5 HP3
  have b6 := B5.out.trans ((below_alloc W5 (.cells #[.int .u8 0, .int .u8 0, .slice ya ym yc, .int .i64 0, .slice yb yk yd] 28)).mono B5.out.size)
  obtain ⟨W6, hW6⟩ : ∃ W6, W6 = W5.alloc (.cells #[.int .u8 0, .int .u8 0, .slice ya ym yc, .int .i64 0, .slice yb yk yd] 28) := ⟨_, rfl⟩
  rw [← hW6] at b6
  have HW6 := Lib.hid hW6.symm
  have B6 := Lib.hid (B4.out.trans (b6.mono B4.out.size))
  have K6 := Lib.hid ((b6.block _ (lt_of_block K4.out)).trans K4.out)
  have R6 := Lib.hid (R4.out.below b6)
  clear b6 hW6 K4 R4 B5
  have hp4 := cparse_any ((HT.out.below B6.out).below (below_alloc W6 (.cells #[.int .u8 17, .int .u8 0, .int .u8 5, .int .u8 1, .int .u8 255, .int .u8 2, .int .u8 0, .int .u8 1] 5))) _ [17, 0, 5, 1, 255, 2, 0, 1] (own_lit W6 #[.int .u8 17, .int .u8 0, .int .u8 5, .int .u8 1, .int .u8 255, .int .u8 2, .int .u8 0, .int .u8 1] [17, 0, 5, 1, 255, 2, 0, 1] rfl (by decide) 8 rfl).cut (by decide) (by decide)
  rw [al_d] at hp4
  have HP4 := Lib.hid hp4
  clear hp4
  go_upto_region 4 with fail
  rw [HW6.out]
  go_wp2_with fail
  refine HP4.out.mono ?_
  rintro e W7 ⟨V7, rfl, hv7, b7⟩
  have B7 := Lib.hid ((below_alloc W6 (.cells #[.int .u8 17, .int .u8 0, .int .u8 5, .int .u8 1, .int .u8 255, .int .u8 2, .int .u8 0, .int .u8 1] 5)).trans (b7.mono (by rw [World.size_alloc]; omega)))
  obtain ⟨vo2, vf2, P, Q, rfl, hP, hPm, hQ, hQm⟩ := hv7
  have HR7 := Lib.hid (show CmR W7 ald (.agg #[.int .u8 243, .int .u8 0, vo2, .int .i64 34, vf2]) from CmV.r ⟨vo2, vf2, P, Q, rfl, hP, hPm, hQ, hQm⟩)
  have hl1 : P.length = 0 := by have := congrArg List.length hPm; simpa [ald] using this
  have hl2 : Q.length = 1 := by have := congrArg List.length hQm; simpa [ald] using this
  obtain ⟨oa2, oc2, rfl⟩ := hP.form
  obtain ⟨fa2, fc2, rfl⟩ := hQ.form
  rw [hl1, hl2] at HR7 ⊢
  clear hP hPm hQ hQm hl1 hl2 b7 HP4
  simp only [ald]
  have b8 := below_alloc W7 (.cells #[.int .u8 243, .int .u8 0, .slice oa2 0 oc2, .int .i64 34, .slice fa2 1 fc2] 28)
  have k8 := heap_alloc_new W7 (.cells #[.int .u8 243, .int .u8 0, .slice oa2 0 oc2, .int .i64 34, .slice fa2 1 fc2] 28)
  obtain ⟨W8, hW8⟩ : ∃ W8, W8 = W7.alloc (.cells #[.int .u8 243, .int .u8 0, .slice oa2 0 oc2, .int .i64 34, .slice fa2 1 fc2] 28) := ⟨_, rfl⟩
  obtain ⟨g2, hg2⟩ : ∃ g, g = W7.heap.size := ⟨_, rfl⟩
  rw [← hW8] at b8 k8
  rw [← hg2] at k8
  have HW8 := Lib.hid hW8.symm
  have HG2 := Lib.hid hg2.symm
  have b68 := B7.out.trans (b8.mono B7.out.size)
  have HA8 := Lib.hid (show ALQ w g g2 (.slice oa 1 oc) (.slice fa 0 fc) (.slice oa2 0 oc2) (.slice fa2 1 fc2) W8 from ⟨B6.out.trans (b68.mono B6.out.size), HT.out.below (B6.out.trans (b68.mono B6.out.size)), (b68.block _ (lt_of_block K6.out)).trans K6.out, k8, R6.out.below b68, HR7.out.below b8⟩)
  clear b8 k8 hW8 hg2 b68 HR7 R6 K6 B7
  have hw := write_one (w := W8) 80 HA8.out.rc (by decide) al_ok4
  rw [al_e, al_b] at hw
  have HWR := Lib.hid hw
  clear hw
  obtain ⟨d0, d1, d2, d3, d4, _⟩ := cells5 HA8.out.c
  go_upto_region 5 with fail
  rw [HW8.out, HG2.out]
  go_wp2_with fail
  refine HWR.out.mono ?_
  rintro e W9 ⟨vb, rfl, hu, _, b9⟩
  have HU9 := Lib.hid (hu rfl).row
  have HA9 := Lib.hid (HA8.out.below b9)
  clear b9 hu d0 d1 d2 d3 d4 HA8 HWR
  have hstr := row_str HU9.out
  rw [show strOfNums [245, 195, 17, 64, 64] = ⟨#[245, 195, 17, 64, 64]⟩ by decide +kernel] at hstr
  obtain ⟨gf, off, rfl, hop⟩ : ∃ gf off, fa2 = some ⟨gf, off, none⟩ ∧ W9.cell? ⟨gf, off + 1, none⟩ = some (.int .u8 2) := by
    obtain ⟨_, _, e1, _, a1, c1, e2, hr⟩ := HA9.out.rd
    obtain ⟨gf, off, ha, _, hi⟩ := hr (by simp [ald])
    obtain ⟨_, hc, _⟩ := hi 0 _ rfl
    injection e1 with e1
    have e3 := congrArg (fun A : Array Value => A[4]?) e1
    simp at e3
    have e4 := e3.trans e2
    injection e4 with e4
    refine ⟨gf, off, e4.trans ha, ?_⟩
    have := hc.2.1
    rwa [Nat.zero_mul, Nat.add_zero] at this
  have HALA := Lib.hid (fun w h0 h1 => alarm_any 195 w h0 h1)
  have HALB := Lib.hid (fun w h0 h1 => alarm_any 4 w h0 h1)
  have HRES := Lib.hid (fun w h0 h1 => restore_any 195 w h0 h1)
  have HCLE := Lib.hid (fun w h0 h1 => clean_any 195 w h0 h1)
  have hn5 := name_any HA9.out.tb 5
  rw [al_n5] at hn5
  have HN5 := Lib.hid hn5
  clear hn5
  obtain ⟨d0, d1, d2, d3, d4, _⟩ := cells5 HA9.out.c
  obtain ⟨e0, e1, e2, e3, e4, _⟩ := cells5 HA9.out.d
  go_wp2_with (first
    | (go_at_call 15; refine (HRES.out _ (by omega) (by omega)).mono ?_; rintro e w' ⟨rfl, rfl⟩)
    | (go_at_call 16; refine (HCLE.out _ (by omega) (by omega)).mono ?_; rintro e w' ⟨rfl, rfl⟩)
    | (go_at_call 14; refine (HALA.out _ (by omega) (by omega)).mono ?_; rintro e w' ⟨rfl, rfl⟩)
    | (go_at_call 14; refine (HALB.out _ (by omega) (by omega)).mono ?_; rintro e w' ⟨rfl, rfl⟩))
  refine HN5.out.mono ?_
  rintro e W10 ⟨rfl, b10⟩
  have HA10 := Lib.hid (HA9.out.below b10)
  clear b10 hstr hop d0 d1 d2 d3 d4 e0 e1 e2 e3 e4 HN5 HA9 HU9
  have hn0 := name_any HA10.out.tb 0
  rw [al_n0] at hn0
  have HN0 := Lib.hid hn0
  clear hn0
  go_wp2_with fail
  refine HN0.out.mono ?_
  rintro e W11 ⟨rfl, b11⟩
  have HA11 := Lib.hid (HA10.out.below b11)
  clear b11 HN0 HA10
  have hs1 := same_quiet HA11.out.rc HA11.out.rc al_ok al_ok (.inr rfl)
  rw [al_same1] at hs1
  have HS1 := Lib.hid hs1
  obtain ⟨d0, d1, d2, d3, d4, _⟩ := cells5 HA11.out.c
  clear hs1
  go_wp2_with fail
  refine HS1.out.mono ?_
  rintro e W12 ⟨rfl, b12⟩
  have HA12 := Lib.hid (HA11.out.below b12)
  clear b12 HS1 HA11 d0 d1 d2 d3 d4
  have hs2 := same_quiet HA12.out.rc HA12.out.rd al_ok al_okd (.inr rfl)
  rw [al_same2] at hs2
  have HS2 := Lib.hid hs2
  obtain ⟨d0, d1, d2, d3, d4, _⟩ := cells5 HA12.out.c
  obtain ⟨e0, e1, e2, e3, e4, _⟩ := cells5 HA12.out.d
  clear hs2
  go_wp2_with fail
  refine HS2.out.mono ?_
  rintro e W13 ⟨rfl, b13⟩
  have B13 := Lib.hid (HA12.out.old.trans (b13.mono HA12.out.old.size))
  clear b13
  go_wp2_with fail
  go_ret
  exact ⟨rfl, B13.out⟩
end Go.Proofs.YtmmgebiojpnhcaaDoor.Cmd
