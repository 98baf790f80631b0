/-
  check: which fault an order has.
-/
import Derived.Test.YtmmgebiojpnhcaaDoorOrdX
namespace Go.Proofs.YtmmgebiojpnhcaaDoor.Ord
open Go.RowKit Base
set_option linter.unusedVariables false
set_option linter.unusedSimpArgs false

def manyM (k : Int) (n : Nat) : Bool := decide (255 < n) || (k == 40) && decide (n ≠ 1)
def chkO (o : Or) (n : Int) : Int :=
  if known o.kind = false then 31
  else if belM o.kind o.addr o.byte o.ge o.pairs.length o.data.length = false then 1
  else if manyM o.kind o.pairs.length = true then 3
  else if plcM o.kind o.addr n = false then 32
  else if shnM o.kind o.byte o.ge o.data = false then 31
  else if fitM o.kind o.pairs = false then 33
  else 0
structure Or.Okw (o : Or) : Prop where
  ps : o.pairs.length ≤ 1000000
  dt : o.data.length ≤ 1000000
  a0 : -9223372036854775808 ≤ o.addr
  a1 : o.addr ≤ 9223372036854775807
  b0 : 0 ≤ o.byte
  b1 : o.byte ≤ 255
set_option maxRecDepth 100000 in
set_option maxHeartbeats 8000000 in
theorem ocheck_any {w : World} {o : Or} {V : Value} (n : Int) (h : OrR w o V) (ho : o.Okw) : Calls Tryd.prog 45 #[V, .int .i64 n] w fun e w' => e = .returned (.int .i64 (chkO o n)) ∧ Below w.heap.size w w' := by
  obtain ⟨vp, vd, rfl, hp, hd⟩ := h
  obtain ⟨h1, h2, h3, h4, h5, h6⟩ := ho
  obtain ⟨k, a, b, g, ps, D⟩ := o
  unfold chkO
  simp only at hp hd h1 h2 h3 h4 h5 h6 ⊢
  obtain ⟨W1, hW1⟩ : ∃ W1, W1 = w.alloc (.cells #[.int .u8 k, .int .i64 a, .int .u8 b, .bool g, vp, vd] 92) := ⟨_, rfl⟩
  have hb := below_alloc w (.cells #[.int .u8 k, .int .i64 a, .int .u8 b, .bool g, vp, vd] 92)
  have hnw := heap_alloc_new w (.cells #[.int .u8 k, .int .i64 a, .int .u8 b, .bool g, vp, vd] 92)
  rw [← hW1] at hb hnw
  obtain ⟨ob, hob⟩ : ∃ ob, ob = w.heap.size := ⟨_, rfl⟩
  rw [← hob] at hnw
  have HP := Lib.hid (hp.below hb)
  have HD := Lib.hid (hd.below hb)
  obtain ⟨pa, pc, rfl⟩ := hp.form
  obtain ⟨da, dc, rfl, _⟩ := hd
  have HB := Lib.hid hb
  have HW1 := Lib.hid hW1.symm
  have HO := Lib.hid hob.symm
  have HNW := Lib.hid hnw
  have HH1 := Lib.hid h1
  have HH2 := Lib.hid h2
  have HBE := Lib.hid (belongs_any k a b g pa da ps.length pc D.length dc)
  have HPL : Hid (∀ w, Calls Tryd.prog 65 #[.agg #[.int .u8 k, .int .i64 a, .int .u8 b, .bool g, .slice pa ps.length pc, .slice da D.length dc], .int .i64 n] w fun e w' => e = .returned (.bool (plcM k a n)) ∧ Below w.heap.size w w') := Lib.hid fun w => isPlace_any k a b n g _ _ w h3 h4
  have HSH : Hid (∀ w', Below W1.heap.size W1 w' → Calls Tryd.prog 66 #[.agg #[.int .u8 k, .int .i64 a, .int .u8 b, .bool g, .slice pa ps.length pc, .slice da D.length dc]] w' fun e w'' => e = .returned (.bool (shnM k b g D)) ∧ Below w'.heap.size w' w'') := Lib.hid fun w' t => mayStand_any k a b g _ _ D w' h5 h6 (HD.out.below t) HH2.out
  have HFI : Hid (∀ w', Below W1.heap.size W1 w' → Calls Tryd.prog 67 #[.agg #[.int .u8 k, .int .i64 a, .int .u8 b, .bool g, .slice pa ps.length pc, .slice da D.length dc]] w' fun e w'' => e = .returned (.bool (fitM k ps)) ∧ Below w'.heap.size w' w'') := Lib.hid fun w' t => isFit_any k a b g _ _ ps w' (HP.out.below t) HH1.out
  obtain ⟨pn, hpn⟩ : ∃ pn, pn = ps.length := ⟨_, rfl⟩
  obtain ⟨dn, hdn⟩ : ∃ dn, dn = D.length := ⟨_, rfl⟩
  obtain ⟨x1, hx1⟩ : ∃ x, x = known k := ⟨_, rfl⟩
  obtain ⟨x2, hx2⟩ : ∃ x, x = belM k a b g ps.length D.length := ⟨_, rfl⟩
  obtain ⟨x4, hx4⟩ : ∃ x, x = plcM k a n := ⟨_, rfl⟩
  obtain ⟨x5, hx5⟩ : ∃ x, x = shnM k b g D := ⟨_, rfl⟩
  obtain ⟨x6, hx6⟩ : ∃ x, x = fitM k ps := ⟨_, rfl⟩
  have hn : (nameB k).toList.isEmpty = !known k := by have := name_none k; simpa using this
  rw [← hx1] at hn ⊢
  rw [← hx2] at HBE ⊢
  rw [← hx4] at HPL ⊢
  rw [← hx5] at HSH ⊢
  rw [← hx6] at HFI ⊢
  rw [← hpn] at h1 HNW HW1 HBE HPL HSH HFI ⊢
  rw [← hdn] at HNW HW1 HBE HPL HSH HFI ⊢
  obtain ⟨R, hR⟩ : ∃ R : Int, R = if x1 = false then 31 else if x2 = false then 1 else if manyM k pn = true then 3 else if x4 = false then 32 else if x5 = false then 31 else if x6 = false then 33 else 0 := ⟨_, rfl⟩
  rw [← hR]
  have HR := Lib.hid hR
  clear hR hx1 hx2 hx4 hx5 hx6 hb hW1 hob hnw HP HD hp h2 h3 h4 h5 h6 HH1 HH2 hpn hdn
  obtain ⟨c0, c1, c2, c3, c4, c5, _⟩ := cells6 HNW.out
  cases x1
  case false =>
    have hn : (nameB k).toList.isEmpty = true := hn
    go_enter Tryd.func45, Tryd.ntmps45
    go_wp2_with fail
    rw [HW1.out]
    refine (name_any k _).mono ?_
    rintro e w' ⟨rfl, rfl⟩
    go_wp2_with fail
    go_ret
    exact ⟨ret_int (by rw [HR.out]; first | rfl | simp [HM.out]), HB.out⟩
  have hn : (nameB k).toList.isEmpty = false := hn
  go_enter Tryd.func45, Tryd.ntmps45
  go_wp2_with fail
  rw [HW1.out, HO.out]
  refine (name_any k _).mono ?_
  rintro e w' ⟨rfl, rfl⟩
  go_wp2_with fail
  refine (HBE.out _).mono ?_
  rintro e W2 ⟨rfl, b2⟩
  cases x2
  case false =>
    have HB2 := Lib.hid (HB.out.trans (b2.mono HB.out.size))
    clear b2
    go_wp2_with fail
    go_ret
    exact ⟨ret_int (by rw [HR.out]; first | rfl | simp [HM.out]), HB2.out⟩
  have T2 := Lib.hid b2
  have N2 := Lib.hid ((b2.block ob (lt_of_block HNW.out)).trans HNW.out)
  clear b2 c0 c1 c2 c3 c4 c5 hn
  obtain ⟨c0, c1, c2, c3, c4, c5, _⟩ := cells6 N2.out
  by_cases hbig : 255 < pn
  · have hbi : (255 : Int) < (pn : Int) := by omega
    have HM := Lib.hid (show manyM k pn = true by simp [manyM, hbig])
    have HB2 := Lib.hid (HB.out.trans (T2.out.mono HB.out.size))
    clear hbig
    go_wp2_with fail
    go_ret
    exact ⟨ret_int (by rw [HR.out]; first | rfl | simp [HM.out]), HB2.out⟩
  have hbi : ¬ (255 : Int) < (pn : Int) := by omega
  by_cases hsa : k = 40 ∧ pn ≠ 1
  · obtain ⟨rfl, h1n⟩ := hsa
    have hpi : ((pn : Int) == 1) = false := by simp; omega
    have hpi2 : ((pn : Int) != 1) = true := by simp; omega
    have HM := Lib.hid (show manyM 40 pn = true by simp [manyM, h1n])
    have HB2 := Lib.hid (HB.out.trans (T2.out.mono HB.out.size))
    clear hbig h1n
    go_wp2_with fail
    go_ret
    exact ⟨ret_int (by rw [HR.out]; first | rfl | simp [HM.out]), HB2.out⟩
  have hmany : manyM k pn = false := by
    unfold manyM
    rw [decide_eq_false hbig, Bool.false_or]
    by_cases hk : k = 40
    · have : pn = 1 := Classical.byContradiction fun h => hsa ⟨hk, h⟩
      simp [this]
    · simp [hk]
  have HM := Lib.hid hmany
  have hcase : (k = 40 ∧ pn = 1) ∨ (k == 40) = false := by
    by_cases hk : k = 40
    · exact .inl ⟨hk, Classical.byContradiction fun h => hsa ⟨hk, h⟩⟩
    · exact .inr (by simpa using hk)
  clear hbig hsa hmany
  have key : ∀ (k' : Int) (pn' : Nat), True := fun _ _ => trivial
  clear key
  rcases hcase with ⟨rfl, rfl⟩ | hk40
  case' inl => skip
  case' inr => skip
  all_goals
    go_wp2_with fail
    refine (HPL.out _).mono ?_
    rintro e W3 ⟨rfl, b3⟩
    cases x4
    case false =>
      have HB3 := Lib.hid (HB.out.trans ((T2.out.trans (b3.mono T2.out.size)).mono HB.out.size))
      clear b3
      go_wp2_with fail
      go_ret
      exact ⟨ret_int (by rw [HR.out]; first | rfl | simp [HM.out]), HB3.out⟩
    have T3 := Lib.hid (T2.out.trans (b3.mono T2.out.size))
    have N3 := Lib.hid ((b3.block ob (lt_of_block N2.out)).trans N2.out)
    clear b3 c0 c1 c2 c3 c4 c5
    obtain ⟨c0, c1, c2, c3, c4, c5, _⟩ := cells6 N3.out
    go_wp2_with fail
    refine (HSH.out _ T3.out).mono ?_
    rintro e W4 ⟨rfl, b4⟩
    cases x5
    case false =>
      have HB4 := Lib.hid (HB.out.trans ((T3.out.trans (b4.mono T3.out.size)).mono HB.out.size))
      clear b4
      go_wp2_with fail
      go_ret
      exact ⟨ret_int (by rw [HR.out]; first | rfl | simp [HM.out]), HB4.out⟩
    have T4 := Lib.hid (T3.out.trans (b4.mono T3.out.size))
    have N4 := Lib.hid ((b4.block ob (lt_of_block N3.out)).trans N3.out)
    clear b4 c0 c1 c2 c3 c4 c5
    obtain ⟨c0, c1, c2, c3, c4, c5, _⟩ := cells6 N4.out
    go_wp2_with fail
    refine (HFI.out _ T4.out).mono ?_
    rintro e W5 ⟨rfl, b5⟩
    have HB5 := Lib.hid (HB.out.trans ((T4.out.trans (b5.mono T4.out.size)).mono HB.out.size))
    clear b5 c0 c1 c2 c3 c4 c5
    cases x6
    all_goals
      go_wp2_with fail
      go_ret
      exact ⟨ret_int (by rw [HR.out]; first | rfl | simp [HM.out]), HB5.out⟩
end Go.Proofs.YtmmgebiojpnhcaaDoor.Ord
