/-
  The walk of FieldWalks.
-/
import Derived.Test.YtgbekdeedahajaaFlT
import Derived.Test.YtgbekdeedahajaaMaskA
namespace Go.Proofs.Ytgbekdeedahajaa.Pl
open Go.RowKit Go.Shelf Base
set_option linter.unusedVariables false
set_option linter.unusedSimpArgs false

/-- The plane, and the row of its fields. -/
structure WkQ (w : World) (b g : Nat) (r c : Int) (L : List Cl) (v : Value) (W : World) : Prop where
  pl : PlAt W b g r c 0 L
  row : W.ownsRow 0 39 3 v (allL L).length (flatF (allL L))
  old : Below w.heap.size w W
theorem WkQ.below {w W W' : World} {b g : Nat} {r c : Int} {L : List Cl} {v : Value} (h : WkQ w b g r c L v W) (t : Below W.heap.size W W') : WkQ w b g r c L v W' :=
  ⟨h.pl.below t, row_turn h.row (S := fun _ => False) (Turn.of_below t) (fun _ _ => id), h.old.trans (t.mono h.old.size)⟩
theorem WkQ.drew {w W : World} {b g : Nat} {r c : Int} {L : List Cl} {v : Value} (h : WkQ w b g r c L v W) : WkQ w b g r c L v W.drew :=
  ⟨h.pl.drew, h.row.drew, below_drew h.old⟩
/-- With two fields in blocks of their own. -/
structure WkF (w : World) (b g : Nat) (r c : Int) (L : List Cl) (v : Value) (F1 F2 : Nat) (f1 f2 : Fd) (W : World) : Prop where
  q : WkQ w b g r c L v W
  h1 : W.heap[F1]? = some (.cells #[.int .i64 f1.s, .int .i64 f1.k, .int .u8 f1.a] 39 (0, 0))
  h2 : W.heap[F2]? = some (.cells #[.int .i64 f2.s, .int .i64 f2.k, .int .u8 f2.a] 39 (0, 0))
section
variable {w W W' : World} {b g : Nat} {r c : Int} {L : List Cl} {v : Value} {F1 F2 : Nat} {f1 f2 : Fd}
theorem WkF.below (h : WkF w b g r c L v F1 F2 f1 f2 W) (t : Below W.heap.size W W') : WkF w b g r c L v F1 F2 f1 f2 W' :=
  ⟨h.q.below t, (t.block _ (lt_of_block h.h1)).trans h.h1, (t.block _ (lt_of_block h.h2)).trans h.h2⟩
theorem WkF.drew (h : WkF w b g r c L v F1 F2 f1 f2 W) : WkF w b g r c L v F1 F2 f1 f2 W.drew := ⟨h.q.drew, h.h1, h.h2⟩
theorem WkF.s (h : WkF w b g r c L v F1 F2 f1 f2 W) : W.cell? ⟨F1, 0, none⟩ = some (.int .i64 f1.s) ∧ W.cell? ⟨F2, 0, none⟩ = some (.int .i64 f2.s) ∧ WkF w b g r c L v F1 F2 f1 f2 W :=
  ⟨by simp [World.cell?, h.h1], by simp [World.cell?, h.h2], h⟩
end
theorem WkF.s2 {w W : World} {b g : Nat} {r c : Int} {L : List Cl} {v : Value} {F1 F2 : Nat} {f1 f2 : Fd} (h : WkF w b g r c L v F1 F2 f1 f2 W) : W.cell? ⟨F1, 0, none⟩ = some (.int .i64 f1.s) ∧ W.cell? ⟨F1, 2, none⟩ = some (.int .u8 f1.a) ∧ WkF w b g r c L v F1 F2 f1 f2 W :=
  ⟨by simp [World.cell?, h.h1], by simp [World.cell?, h.h1], h⟩
theorem flatF_get : ∀ (X : List Fd) (i : Nat) (f : Fd), X[i]? = some f → (flatF X)[i * 3]? = some (.int .i64 f.s) ∧ (flatF X)[i * 3 + 1]? = some (.int .i64 f.k) ∧ (flatF X)[i * 3 + 2]? = some (.int .u8 f.a)
  | [], i, f, h => by simp at h
  | q :: P, 0, f, h => by
    obtain rfl : q = f := by simpa using h
    exact ⟨rfl, rfl, rfl⟩
  | q :: P, i + 1, f, h => by
    have := flatF_get P i f (by simpa using h)
    rw [show (i + 1) * 3 = i * 3 + 1 + 1 + 1 by omega]
    exact this
theorem row_shape {W : World} {e : TypeId} {k n : Nat} {xs : List Value} {v : Value} (h : W.ownsRow 0 e k v n xs) : ∃ a cap, v = .slice a n cap ∧ (0 < n → ∃ gr, a = some ⟨gr, 0, none⟩) := by
  rcases h.2 with ⟨rfl, rfl⟩ | ⟨g, cap, cur, rfl, _⟩
  · exact ⟨none, 0, rfl, fun h => absurd h (by omega)⟩
  · exact ⟨_, cap, rfl, fun _ => ⟨g, rfl⟩⟩
theorem mL_oks {L0 : List Cl} (h : ∀ x ∈ L0, x.Ok) (n k : Nat) : OkL (mL n L0 k) := mL_ok n h k
set_option maxRecDepth 100000 in
set_option maxHeartbeats 8000000 in
theorem walks_law (r c : Int) (v0 : Value) (L0 : List Cl) (at_ : Int) (w : World) (hv : ClsAt w v0 L0) (hm : L0.length ≤ maxLen) (hok : ∀ x ∈ L0, x.Ok) :
    Calls Try.prog 6 #[.agg #[.int .i64 r, .int .i64 c], v0, .int .i64 at_] w fun e W => e = .returned (.bool true) ∧ Below w.heap.size w W := by
  obtain ⟨a0, cap0, hv0, _⟩ := id hv
  subst hv0
  obtain ⟨m0, hm0⟩ : ∃ m0, m0 = L0.length := ⟨_, rfl⟩
  have HV := Lib.hid hv
  have HM := Lib.hid hm
  have HOK := Lib.hid hok
  rw [← hm0] at HV hm ⊢
  have HM0 := Lib.hid hm0
  obtain ⟨W0, hW0⟩ : ∃ W0, W0 = w.alloc (.cells #[.int .i64 r, .int .i64 c] 23) := ⟨_, rfl⟩
  have hn0 : W0.heap[w.heap.size]? = some (.cells #[.int .i64 r, .int .i64 c] 23 (0, 0)) := by rw [hW0]; exact heap_alloc_new w _
  have HN0 := Lib.hid hn0
  have B0 := Lib.hid (show Below w.heap.size w W0 by rw [hW0]; exact below_alloc w _)
  have HW0 := Lib.hid hW0.symm
  clear hv hok hm0 hW0 hn0 hm
  go_enter Try.func6, Try.ntmps6
  go_wp2_with fail
  rw [HW0.out]
  go_wp2_with (go_at_call 13; (with_reducible refine (fld_alive W0).mono ?_); rintro e w1 ⟨rfl, hb1⟩
               have n1 := (hb1.block _ (lt_of_block HN0.out)).trans HN0.out
               have q0 : w1.cell? ⟨w.heap.size, 0, none⟩ = some (.int .i64 r) := by simp [World.cell?, n1]
               have q1 : w1.cell? ⟨w.heap.size, 1, none⟩ = some (.int .i64 c) := by simp [World.cell?, n1]
               have B1 := Lib.hid (B0.out.trans (hb1.mono B0.out.size)); clear hb1 n1)
  go_at_call 14
  refine (made_any r c (.slice a0 m0 cap0) L0 w1 (HV.out.below (B1.out.mono (Nat.le_refl _))) HM.out).mono ?_
  rintro e w2 (⟨hno, pv, r', c', a', l', k', rfl, hb2⟩ | ⟨b, g, gx, n, hcn, hn1, hn2, rfl, hpl, hrow, hb, hg, hgx, hgb, hgg, hb2⟩)
  · unfold xV
    go_wp2_with fail
    go_ret
    exact ⟨rfl, B1.out.trans ((hb2.mono B1.out.size).alloc (by have := B1.out.size; have := hb2.size; omega) _)⟩
  · unfold xV
    obtain ⟨L, hL⟩ : ∃ L, L = mL n L0 L0.length := ⟨_, rfl⟩
    rw [← hL] at hpl
    have hlen : L.length = n := by rw [hL, mL_length]
    have hokL : OkL L := by rw [hL]; exact mL_oks HOK.out _ _
    have HPL := Lib.hid (hpl.alloc (.cells #[.int .i64 r, .int .i64 c, .slice (some ⟨gx, 0, none⟩) n n, .int .i64 0] 28))
    have B2 := Lib.hid ((B1.out.trans (hb2.mono B1.out.size)).alloc (by have := B1.out.size; have := hb2.size; omega) (.cells #[.int .i64 r, .int .i64 c, .slice (some ⟨gx, 0, none⟩) n n, .int .i64 0] 28))
    have HBO := Lib.hid (bo_of_ok hokL)
    clear hpl hrow hb2 hL hcn q0 q1
    go_wp2_with (go_at_call 16; (with_reducible refine (lall_any HPL.out HBO.out 1000 (by omega)).mono ?_); rintro e w3 ⟨v, he, hr, _, hb3⟩
                 rw [take_all (by have := allK_most L (fun _ => L) L.length; show (allK L (fun _ => L) L.length).length ≤ _; omega)] at hr
                 obtain ⟨a, cap, hv, hsome⟩ := row_shape hr
                 subst hv
                 subst he
                 have HQ := Lib.hid (show WkQ w b g r c L (.slice a (allL L).length cap) w3 from ⟨HPL.out.below hb3, hr, B2.out.trans (hb3.mono B2.out.size)⟩)
                 have HSO := Lib.hid hsome
                 obtain ⟨m, hmm⟩ : ∃ m, m = (allL L).length := ⟨_, rfl⟩
                 have hml : m ≤ 120 := by have := allK_most L (fun _ => L) L.length; rw [hmm]; show (allK L (fun _ => L) L.length).length ≤ _; omega
                 rw [← hmm] at HQ HSO ⊢
                 have HMM := Lib.hid hmm
                 clear hr hb3 hsome hmm)
    go_loopw [31] (fun p wr => ∃ i : Nat, p = .int .i64 i ∧ i ≤ m ∧ WkQ w b g r c L (.slice a m cap) wr) (fun p _ => m - (intOf p).toNat)
    case atStart => exact ⟨0, rfl, Nat.zero_le _, HQ.out⟩
    case round =>
      obtain ⟨i, rfl, hi, hq⟩ := hrel
      have HQ1 := Lib.hid hq
      by_cases him : i < m
      · have himi : (i : Int) < (m : Int) := by omega
        obtain ⟨gr, rfl⟩ := HSO.out (by omega)
        have hrow := hq.row
        rw [← HMM.out] at hrow
        obtain ⟨f, hf⟩ : ∃ f, (allL L)[i]? = some f := ⟨_, List.getElem?_eq_getElem (by rw [← HMM.out]; exact him)⟩
        obtain ⟨j, hj⟩ : ∃ j, j = (i + 1) % m := ⟨_, rfl⟩
        have hjm : j < m := by rw [hj]; exact Nat.mod_lt _ (by omega)
        have hjmi : (j : Int) < (m : Int) := by omega
        obtain ⟨f2, hf2⟩ : ∃ f2, (allL L)[j]? = some f2 := ⟨_, List.getElem?_eq_getElem (by rw [← HMM.out]; exact hjm)⟩
        have hrem : ((i : Int) + 1).tmod (m : Int) = (j : Int) := by
          rw [Int.tmod_eq_emod_of_nonneg (by omega), hj]; push_cast; rfl
        have haft := aft_next hf (g := f2) (by rw [← HMM.out, ← hj]; exact hf2)
        obtain ⟨p, p1, p2, p3⟩ := (stg L L.length).each i f hf
        have hfs : f.s = p := by rw [p3]; rfl
        have hbef := bef_self (L := L) (p := p) (by omega) (by omega) p2
        have hopn := open_self (L := L) (p := p) (by omega) (by omega) p2
        rw [← hfs] at hbef hopn p2
        obtain ⟨f0, f1', f3⟩ := flatF_get _ _ _ hf
        obtain ⟨g0, g1', g3⟩ := flatF_get _ _ _ hf2
        have a1 := (hrow.cellAt (i * 3) (by omega)).trans f0
        have a2 := (hrow.cellAt (i * 3 + 1) (by omega)).trans f1'
        have a3 := (hrow.cellAt (i * 3 + 2) (by omega)).trans f3
        have b1 := (hrow.cellAt (j * 3) (by omega)).trans g0
        have b2 := (hrow.cellAt (j * 3 + 1) (by omega)).trans g1'
        have b3 := (hrow.cellAt (j * 3 + 2) (by omega)).trans g3
        have d1 := cell_later (below_alloc wr (.cells #[.int .i64 f.s, .int .i64 f.k, .int .u8 f.a] 39)) b1
        have d2 := cell_later (below_alloc wr (.cells #[.int .i64 f.s, .int .i64 f.k, .int .u8 f.a] 39)) b2
        have d3 := cell_later (below_alloc wr (.cells #[.int .i64 f.s, .int .i64 f.k, .int .u8 f.a] 39)) b3
        have hkf : WkF w b g r c L (.slice (some ⟨gr, 0, none⟩) m cap) wr.heap.size (wr.heap.size + 1) f f2 ((wr.alloc (.cells #[.int .i64 f.s, .int .i64 f.k, .int .u8 f.a] 39)).alloc (.cells #[.int .i64 f2.s, .int .i64 f2.k, .int .u8 f2.a] 39)) := by
          refine ⟨(hq.below (below_alloc _ _)).below (below_alloc _ _), ?_, ?_⟩
          · rw [Below.heap_alloc _ _ _ (by simp)]; exact heap_alloc_new _ _
          · have := heap_alloc_new (wr.alloc (.cells #[.int .i64 f.s, .int .i64 f.k, .int .u8 f.a] 39)) (.cells #[.int .i64 f2.s, .int .i64 f2.k, .int .u8 f2.a] 39)
            simp only [World.size_alloc] at this; exact this
        have HKF := Lib.hid hkf
        have HAFT := Lib.hid haft
        have HBEF := Lib.hid hbef
        have HOPN := Lib.hid hopn
        obtain ⟨⟨yb, yg, ys, yl, yc⟩, hy⟩ : ∃ y, y = atL L f.s := ⟨_, rfl⟩
        rw [← hy] at p2
        simp only at p2
        subst p2
        have hcs := cell_start yb yg true yl yc
        have HY := Lib.hid hy
        clear hq hrow hf hf2 hj haft hbef hopn hkf f0 f1' f3 g0 g1' g3 p3 hfs hy
        go_wp2_with fail
        go_region_held3 (fun X => X.cell? ⟨wr.heap.size, 0, none⟩ = some (.int .i64 f.s) ∧ X.cell? ⟨wr.heap.size + 1, 0, none⟩ = some (.int .i64 f2.s) ∧ WkF w b g r c L (.slice (some ⟨gr, 0, none⟩) m cap) wr.heap.size (wr.heap.size + 1) f f2 X)
          (with_reducible (first | assumption | exact WkF.s (WkF.drew HKF.out) | exact WkF.s (by assumption)))
          (first
            | (go_at_call 30; (with_reducible refine (after_any (WkQ.pl (WkF.q (WkF.drew HKF.out))) f.s).mono ?_); rintro e x1 ⟨he, hb⟩; rw [HAFT.out] at he; subst he; have K1 := WkF.below (WkF.drew HKF.out) hb; clear hb)
            | (go_at_call 29; (with_reducible refine (before_any (WkQ.pl (WkF.q K1)) f.s).mono ?_); rintro e x2 ⟨he, hb⟩; rw [HBEF.out] at he; subst he; have K2 := WkF.below K1 hb; clear hb)
            | (go_at_call 32; (with_reducible refine (open_any (WkQ.pl (WkF.q K2)) f.s HBO.out).mono ?_); rintro e x3 ⟨he, hb⟩; rw [HOPN.out] at he; subst he; have K3 := WkF.below K2 hb; clear hb)
            | (go_at_call 39; (with_reducible refine (at_any (WkQ.pl (WkF.q K3)) f.s).mono ?_); rintro e x4 ⟨he, hb⟩; rw [← HY.out] at he; simp only [Cl.val] at he; subst he; have K4 := WkF.below K3 hb; clear hb))
        all_goals
          go_wp2
          go_roundw
          case rel => exact ⟨i + 1, by go_num, by omega, K4.q⟩
          case measure => simp [intOf]; omega
      · have himi : ¬ (i : Int) < (m : Int) := by omega
        obtain ⟨q, hq1, hqe⟩ : ∃ q : Int, (0 ≤ q ∧ q < n) ∧ (bits .and .i64 at_ 4095).tmod (n : Int) = q := by
          obtain ⟨k4, hand, hk4, _⟩ := Go.Proofs.Ytgbekdeedahajaa.Mask.mask_nat at_ 4095 12 4096 (by omega) (by decide) (by decide)
          have hand' : bits .and .i64 at_ 4095 = (k4 : Int) := hand
          exact ⟨(k4 : Int) % (n : Int), ⟨Int.emod_nonneg _ (by omega), Int.emod_lt_of_pos _ (by omega)⟩, by rw [hand', Int.tmod_eq_emod_of_nonneg (by omega)]⟩
        have hnp : (1 : Int) ≤ n := by omega
        have hnm : (n : Int) ≤ 120 := by omega
        have hlq := len_any hq.pl
        rw [hlen] at hlq
        have HLQ := Lib.hid hlq
        have hisf := isF_iff (L := L) (a := q) (by omega) (by omega)
        rw [← HMM.out] at hisf
        have hbn := bef_none (L := L) (a := q) (by omega) (by omega)
        have hbr := bef_range (L := L) (by omega) q
        have hinq : inL L.length q = true := by simp [inL]; omega
        clear hq
        by_cases hm1 : m = 0
        · have hX : allL L = [] := List.eq_nil_of_length_eq_zero (by rw [← HMM.out]; exact hm1)
          have hz := hbn.2 hX
          have HIS := Lib.hid (show isF L q = false by rw [hisf, hm1]; rfl)
          have HOF := Lib.hid (show ofF L q = fd0 by unfold ofF; rw [if_pos hz])
          have HOPN := Lib.hid (show opnL L q = true by unfold opnL; rw [hinq, hz]; rfl)
          have HZ := Lib.hid hz
          have hm1i : (m : Int) = 0 := by omega
          clear hX hz hisf hbn hbr hinq
          go_wp2_with (first
            | (go_at_call 38; (with_reducible refine HLQ.out.mono ?_); rintro e x1 ⟨rfl, rfl⟩)
            | (go_at_call 27; (with_reducible refine (of_any (WkQ.pl HQ1.out) q HBO.out).mono ?_); rintro e x2 ⟨he, hb2⟩; rw [HOF.out, HIS.out] at he; simp only [Fd.val, fd0] at he; subst he; have K6 := WkQ.below (WkQ.below HQ1.out hb2) (below_alloc x2 (.cells #[.int .i64 0, .int .i64 0, .int .u8 0] 39)); clear hb2)
            | (go_at_call 32; (with_reducible refine (open_any (WkQ.pl K6) q HBO.out).mono ?_); rintro e x3 ⟨he, hb2⟩; rw [HOPN.out] at he; subst he; have K5 := WkQ.below K6 hb2; clear hb2)
            | (go_at_call 29; (with_reducible refine (before_any (WkQ.pl K5) q).mono ?_); rintro e x4 ⟨he, hb2⟩; rw [HZ.out] at he; subst he; have K7 := WkQ.below K5 hb2; clear hb2))
          --A
          refine wp_region_held_drew (S := fun X => Below w.heap.size w X) (by kernel_rfl) (below_drew K7.old) (fun hHeld => ?_)
          refine wpAnyH_take (i := 0) (oi := { dst := some 107, op := Op.move (Operand.tmp 15), type := 4, pos := "law.go:206", after := #[], guard := none }) (v := ?_) rfl (by kernel_rfl) (by kernel_rfl) (by kernel_rfl) (fun _ _ _ h => h) (Or.inl ⟨by rfl, ?_⟩) (by assumption) ?_
          rotate_left
          focus (intro w hSw; (try dsimp only at hSw); go_simp; try (with_reducible rfl))
          try simp only [Act.put, List.setIfInBounds_toArray, List.set_cons_zero, List.set_cons_succ]
          refine wpAnyH_take (i := 1) (oi := { dst := some 108, op := Op.unOp UnOp.not 4 (Operand.tmp 107), type := 4, pos := "law.go:206", after := #[{ on := 0, ground := Ground.data }], guard := none }) (v := ?_) rfl (by kernel_rfl) (by kernel_rfl) (by kernel_rfl) (fun _ _ _ h => h) (Or.inl ⟨by rfl, ?_⟩) (by assumption) ?_
          rotate_left
          focus (intro w hSw; (try dsimp only at hSw); go_simp; try (with_reducible rfl))
          try simp only [Act.put, List.setIfInBounds_toArray, List.set_cons_zero, List.set_cons_succ]
          refine wpAnyH_take (i := 2) (oi := { dst := some 109, op := Op.move (Operand.tmp 108), type := 4, pos := "law.go:206", after := #[{ on := 1, ground := Ground.data }], guard := none }) (v := ?_) rfl (by kernel_rfl) (by kernel_rfl) (by kernel_rfl) (fun _ _ _ h => h) (Or.inl ⟨by rfl, ?_⟩) (by assumption) ?_
          rotate_left
          focus (intro w hSw; (try dsimp only at hSw); go_simp; try (with_reducible rfl))
          try simp only [Act.put, List.setIfInBounds_toArray, List.set_cons_zero, List.set_cons_succ]
          refine wpAnyH_take (i := 3) (oi := { dst := some 110, op := Op.move (Operand.tmp 7), type := 26, pos := "law.go:206", after := #[{ on := 2, ground := Ground.guard }], guard := some (2, false) }) (v := undef) rfl (by kernel_rfl) (by kernel_rfl) (by kernel_rfl) (fun _ _ _ h => h) (Or.inr ⟨by rfl, rfl⟩) (by assumption) ?_
          try simp only [Act.put, List.setIfInBounds_toArray, List.set_cons_zero, List.set_cons_succ]
          refine wpAnyH_take (i := 4) (oi := { dst := some 111, op := Op.move (Operand.tmp 2), type := 3, pos := "law.go:206", after := #[{ on := 2, ground := Ground.guard }], guard := some (2, false) }) (v := undef) rfl (by kernel_rfl) (by kernel_rfl) (by kernel_rfl) (fun _ _ _ h => h) (Or.inr ⟨by rfl, rfl⟩) (by assumption) ?_
          try simp only [Act.put, List.setIfInBounds_toArray, List.set_cons_zero, List.set_cons_succ]
          refine wpAnyH_take (i := 5) (oi := { dst := some 112, op := Op.call { callee := Callee.value (Operand.func 32), args := #[Operand.tmp 110, Operand.tmp 111], argTypes := #[26, 3] }, type := 4, pos := "law.go:206", after := #[{ on := 3, ground := Ground.data }, { on := 4, ground := Ground.data }, { on := 2, ground := Ground.chain }, { on := 2, ground := Ground.guard }], guard := some (2, false) }) (v := undef) rfl (by kernel_rfl) (by kernel_rfl) (by kernel_rfl) (fun _ _ _ h => h) (Or.inr ⟨by rfl, rfl⟩) (by assumption) ?_
          try simp only [Act.put, List.setIfInBounds_toArray, List.set_cons_zero, List.set_cons_succ]
          refine wpAnyH_take (i := 6) (oi := { dst := some 113, op := Op.move (Operand.tmp 2), type := 3, pos := "law.go:206", after := #[{ on := 2, ground := Ground.guard }], guard := some (2, false) }) (v := undef) rfl (by kernel_rfl) (by kernel_rfl) (by kernel_rfl) (fun _ _ _ h => h) (Or.inr ⟨by rfl, rfl⟩) (by assumption) ?_
          try simp only [Act.put, List.setIfInBounds_toArray, List.set_cons_zero, List.set_cons_succ]
          refine wpAnyH_take (i := 7) (oi := { dst := some 114, op := Op.fieldAddr 39 (Operand.tmp 14) 0, type := 0, pos := "law.go:206", after := #[{ on := 2, ground := Ground.guard }], guard := some (2, false) }) (v := undef) rfl (by kernel_rfl) (by kernel_rfl) (by kernel_rfl) (fun _ _ _ h => h) (Or.inr ⟨by rfl, rfl⟩) (by assumption) ?_
          try simp only [Act.put, List.setIfInBounds_toArray, List.set_cons_zero, List.set_cons_succ]
          refine wpAnyH_take (i := 8) (oi := { dst := some 115, op := Op.load 3 (Operand.tmp 114), type := 3, pos := "law.go:206", after := #[{ on := 7, ground := Ground.data }, { on := 2, ground := Ground.guard }], guard := some (2, false) }) (v := undef) rfl (by kernel_rfl) (by kernel_rfl) (by kernel_rfl) (fun _ _ _ h => h) (Or.inr ⟨by rfl, rfl⟩) (by assumption) ?_
          try simp only [Act.put, List.setIfInBounds_toArray, List.set_cons_zero, List.set_cons_succ]
          refine wpAnyH_take (i := 9) (oi := { dst := some 116, op := Op.binOp BinOp.neq 3 (Operand.tmp 113) (Operand.tmp 115) 3, type := 4, pos := "law.go:206", after := #[{ on := 6, ground := Ground.data }, { on := 8, ground := Ground.data }, { on := 2, ground := Ground.guard }], guard := some (2, false) }) (v := undef) rfl (by kernel_rfl) (by kernel_rfl) (by kernel_rfl) (fun _ _ _ h => h) (Or.inr ⟨by rfl, rfl⟩) (by assumption) ?_
          try simp only [Act.put, List.setIfInBounds_toArray, List.set_cons_zero, List.set_cons_succ]
          refine wpAnyH_take (i := 10) (oi := { dst := some 117, op := Op.move (Operand.tmp 116), type := 4, pos := "law.go:206", after := #[{ on := 9, ground := Ground.data }, { on := 5, ground := Ground.chain }, { on := 2, ground := Ground.guard }], guard := some (2, false) }) (v := undef) rfl (by kernel_rfl) (by kernel_rfl) (by kernel_rfl) (fun _ _ _ h => h) (Or.inr ⟨by rfl, rfl⟩) (by assumption) ?_
          try simp only [Act.put, List.setIfInBounds_toArray, List.set_cons_zero, List.set_cons_succ]
          refine wpAnyH_take (i := 11) (oi := { dst := some 118, op := Op.fieldAddr 39 (Operand.tmp 14) 2, type := 0, pos := "law.go:206", after := #[{ on := 10, ground := Ground.guard }], guard := some (10, true) }) (v := undef) rfl (by kernel_rfl) (by kernel_rfl) (by kernel_rfl) (fun _ _ _ h => h) (Or.inr ⟨by rfl, rfl⟩) (by assumption) ?_
          try simp only [Act.put, List.setIfInBounds_toArray, List.set_cons_zero, List.set_cons_succ]
          refine wpAnyH_take (i := 12) (oi := { dst := some 119, op := Op.load 5 (Operand.tmp 118), type := 5, pos := "law.go:206", after := #[{ on := 11, ground := Ground.data }, { on := 10, ground := Ground.guard }], guard := some (10, true) }) (v := undef) rfl (by kernel_rfl) (by kernel_rfl) (by kernel_rfl) (fun _ _ _ h => h) (Or.inr ⟨by rfl, rfl⟩) (by assumption) ?_
          try simp only [Act.put, List.setIfInBounds_toArray, List.set_cons_zero, List.set_cons_succ]
          refine wpAnyH_take (i := 13) (oi := { dst := some 120, op := Op.binOp BinOp.and 5 (Operand.tmp 119) (Operand.const (Value.int IntKind.u8 32)) 5, type := 5, pos := "law.go:206", after := #[{ on := 12, ground := Ground.data }, { on := 10, ground := Ground.guard }], guard := some (10, true) }) (v := undef) rfl (by kernel_rfl) (by kernel_rfl) (by kernel_rfl) (fun _ _ _ h => h) (Or.inr ⟨by rfl, rfl⟩) (by assumption) ?_
          try simp only [Act.put, List.setIfInBounds_toArray, List.set_cons_zero, List.set_cons_succ]
          refine wpAnyH_take (i := 14) (oi := { dst := some 121, op := Op.binOp BinOp.eql 5 (Operand.tmp 120) (Operand.const (Value.int IntKind.u8 0)) 5, type := 4, pos := "law.go:206", after := #[{ on := 13, ground := Ground.data }, { on := 10, ground := Ground.guard }], guard := some (10, true) }) (v := undef) rfl (by kernel_rfl) (by kernel_rfl) (by kernel_rfl) (fun _ _ _ h => h) (Or.inr ⟨by rfl, rfl⟩) (by assumption) ?_
          try simp only [Act.put, List.setIfInBounds_toArray, List.set_cons_zero, List.set_cons_succ]
          refine wpAnyH_take (i := 15) (oi := { dst := some 122, op := Op.pick (Operand.tmp 117) (Operand.tmp 121) (Operand.const (Value.bool false)), type := 4, pos := "law.go:206", after := #[{ on := 10, ground := Ground.data }, { on := 14, ground := Ground.data }, { on := 2, ground := Ground.guard }], guard := some (2, false) }) (v := undef) rfl (by kernel_rfl) (by kernel_rfl) (by kernel_rfl) (fun _ _ _ h => h) (Or.inr ⟨by rfl, rfl⟩) (by assumption) ?_
          try simp only [Act.put, List.setIfInBounds_toArray, List.set_cons_zero, List.set_cons_succ]
          refine wpAnyH_take (i := 16) (oi := { dst := some 123, op := Op.binOp BinOp.eql 4 (Operand.tmp 112) (Operand.tmp 122) 4, type := 4, pos := "law.go:206", after := #[{ on := 5, ground := Ground.data }, { on := 15, ground := Ground.data }, { on := 2, ground := Ground.guard }], guard := some (2, false) }) (v := undef) rfl (by kernel_rfl) (by kernel_rfl) (by kernel_rfl) (fun _ _ _ h => h) (Or.inr ⟨by rfl, rfl⟩) (by assumption) ?_
          try simp only [Act.put, List.setIfInBounds_toArray, List.set_cons_zero, List.set_cons_succ]
          refine wpAnyH_take (i := 17) (oi := { dst := some 124, op := Op.pick (Operand.tmp 109) (Operand.const (Value.bool true)) (Operand.tmp 123), type := 4, pos := "law.go:206", after := #[{ on := 2, ground := Ground.data }, { on := 16, ground := Ground.data }], guard := none }) (v := ?_) rfl (by kernel_rfl) (by kernel_rfl) (by kernel_rfl) (fun _ _ _ h => h) (Or.inl ⟨by rfl, ?_⟩) (by assumption) ?_
          rotate_left
          focus (intro w hSw; (try dsimp only at hSw); go_simp; try (with_reducible rfl))
          try simp only [Act.put, List.setIfInBounds_toArray, List.set_cons_zero, List.set_cons_succ]
          refine wpAnyH_take (i := 18) (oi := { dst := some 6, op := Op.assign (Operand.tmp 124), type := 4, pos := "law.go:206", after := #[{ on := 17, ground := Ground.data }, { on := 10, ground := Ground.chain }, { on := 0, ground := Ground.phase }, { on := 1, ground := Ground.phase }, { on := 2, ground := Ground.phase }, { on := 3, ground := Ground.phase }, { on := 4, ground := Ground.phase }, { on := 5, ground := Ground.phase }, { on := 6, ground := Ground.phase }, { on := 7, ground := Ground.phase }, { on := 8, ground := Ground.phase }, { on := 9, ground := Ground.phase }, { on := 10, ground := Ground.phase }, { on := 11, ground := Ground.phase }, { on := 12, ground := Ground.phase }, { on := 13, ground := Ground.phase }, { on := 14, ground := Ground.phase }, { on := 15, ground := Ground.phase }, { on := 16, ground := Ground.phase }, { on := 17, ground := Ground.phase }], guard := none }) (v := ?_) rfl (by kernel_rfl) (by kernel_rfl) (by kernel_rfl) (fun _ _ _ h => h) (Or.inl ⟨by rfl, ?_⟩) (by assumption) ?_
          rotate_left
          focus (intro w hSw; (try dsimp only at hSw); go_simp; try (with_reducible rfl))
          try simp only [Act.put, List.setIfInBounds_toArray, List.set_cons_zero, List.set_cons_succ]
          refine wpAnyH_done (by kernel_rfl) ?_ _
          --ENDA
          go_wp2
          go_ret
          exact ⟨rfl, below_drew K7.old⟩
        · obtain ⟨z, hz⟩ : ∃ z, z = befL L q := ⟨_, rfl⟩
          rw [← hz] at hbr hbn
          have hm1i : (0 : Int) < (m : Int) := by omega
          have hzn : ¬ z = -1 := fun h => by
            have := hbn.1 h
            have h2 := HMM.out
            rw [this] at h2
            simp at h2; omega
          have HIS := Lib.hid (show isF L q = true by rw [hisf]; simp; omega)
          have hbz := HBO.out z
          obtain ⟨yb, hyb⟩ : ∃ yb, yb = (atL L z).b := ⟨_, rfl⟩
          rw [← hyb] at hbz
          obtain ⟨fk, hfk⟩ : ∃ fk, fk = (begF L z).k := ⟨_, rfl⟩
          obtain ⟨y6, hy6⟩ : ∃ y6, y6 = yb % 64 := ⟨_, rfl⟩
          have HOF := Lib.hid (show ofF L q = ⟨z, fk, y6⟩ by
            unfold ofF; rw [← hz, if_neg hzn, hfk, hy6, hyb]; rfl)
          have hzb : (z == -1) = false := by simpa using hzn
          have HOP0 := Lib.hid (show opnL L q = (z != q && !Attr.prot yb) by unfold opnL; rw [hinq, ← hz, hzb, ← hyb]; simp)
          have hy60 : 0 ≤ y6 ∧ y6 ≤ 255 := by omega
          have hb32 := Attr.bit32 y6 hy60.1 hy60.2
          rw [hy6, prot_mod, ← hy6] at hb32
          have HB32 := Lib.hid hb32
          clear hisf hbn hbr hinq hyb hfk hz hzb hb32 hy6
          by_cases hza : q = z
          · have hqz : (q != z) = false := by simpa using hza
            have HOPN := Lib.hid (show opnL L q = false by rw [HOP0.out]; simp [hza])
            clear hza
            go_wp2_with (first
              | (go_at_call 38; (with_reducible refine HLQ.out.mono ?_); rintro e x1 ⟨rfl, rfl⟩)
              | (go_at_call 27; (with_reducible refine (of_any (WkQ.pl HQ1.out) q HBO.out).mono ?_); rintro e x2 ⟨he, hb2⟩; rw [HOF.out, HIS.out] at he; simp only [Fd.val] at he; subst he; have K6 := Lib.hid (show WkF w b g r c L (.slice a m cap) x2.heap.size x2.heap.size ⟨z, fk, y6⟩ ⟨z, fk, y6⟩ (x2.alloc (.cells #[.int .i64 z, .int .i64 fk, .int .u8 y6] 39)) from ⟨WkQ.below (WkQ.below HQ1.out hb2) (below_alloc x2 _), heap_alloc_new _ _, heap_alloc_new _ _⟩); clear hb2))
            --B
            refine wp_region_held_drew (S := fun X => X.cell? ⟨x2.heap.size, 0, none⟩ = some (.int .i64 z) ∧ X.cell? ⟨x2.heap.size, 2, none⟩ = some (.int .u8 y6) ∧ WkF w b g r c L (.slice a m cap) x2.heap.size x2.heap.size ⟨z, fk, y6⟩ ⟨z, fk, y6⟩ X) (by kernel_rfl) (WkF.s2 (WkF.drew K6.out)) (fun hHeld => ?_)
            refine wpAnyH_take (i := 0) (oi := { dst := some 107, op := Op.move (Operand.tmp 15), type := 4, pos := "law.go:206", after := #[], guard := none }) (v := ?_) rfl (by kernel_rfl) (by kernel_rfl) (by kernel_rfl) (fun _ _ _ h => h) (Or.inl ⟨by rfl, ?_⟩) (by assumption) ?_
            rotate_left
            focus (intro w hSw; (try dsimp only at hSw); go_simp; try (with_reducible rfl))
            try simp only [Act.put, List.setIfInBounds_toArray, List.set_cons_zero, List.set_cons_succ]
            refine wpAnyH_take (i := 1) (oi := { dst := some 108, op := Op.unOp UnOp.not 4 (Operand.tmp 107), type := 4, pos := "law.go:206", after := #[{ on := 0, ground := Ground.data }], guard := none }) (v := ?_) rfl (by kernel_rfl) (by kernel_rfl) (by kernel_rfl) (fun _ _ _ h => h) (Or.inl ⟨by rfl, ?_⟩) (by assumption) ?_
            rotate_left
            focus (intro w hSw; (try dsimp only at hSw); go_simp; try (with_reducible rfl))
            try simp only [Act.put, List.setIfInBounds_toArray, List.set_cons_zero, List.set_cons_succ]
            refine wpAnyH_take (i := 2) (oi := { dst := some 109, op := Op.move (Operand.tmp 108), type := 4, pos := "law.go:206", after := #[{ on := 1, ground := Ground.data }], guard := none }) (v := ?_) rfl (by kernel_rfl) (by kernel_rfl) (by kernel_rfl) (fun _ _ _ h => h) (Or.inl ⟨by rfl, ?_⟩) (by assumption) ?_
            rotate_left
            focus (intro w hSw; (try dsimp only at hSw); go_simp; try (with_reducible rfl))
            try simp only [Act.put, List.setIfInBounds_toArray, List.set_cons_zero, List.set_cons_succ]
            refine wpAnyH_take (i := 3) (oi := { dst := some 110, op := Op.move (Operand.tmp 7), type := 26, pos := "law.go:206", after := #[{ on := 2, ground := Ground.guard }], guard := some (2, false) }) (v := ?_) rfl (by kernel_rfl) (by kernel_rfl) (by kernel_rfl) (fun _ _ _ h => h) (Or.inl ⟨by rfl, ?_⟩) (by assumption) ?_
            rotate_left
            focus (intro w hSw; (try dsimp only at hSw); go_simp; try (with_reducible rfl))
            try simp only [Act.put, List.setIfInBounds_toArray, List.set_cons_zero, List.set_cons_succ]
            refine wpAnyH_take (i := 4) (oi := { dst := some 111, op := Op.move (Operand.tmp 2), type := 3, pos := "law.go:206", after := #[{ on := 2, ground := Ground.guard }], guard := some (2, false) }) (v := ?_) rfl (by kernel_rfl) (by kernel_rfl) (by kernel_rfl) (fun _ _ _ h => h) (Or.inl ⟨by rfl, ?_⟩) (by assumption) ?_
            rotate_left
            focus (intro w hSw; (try dsimp only at hSw); go_simp; try (with_reducible rfl))
            try simp only [Act.put, List.setIfInBounds_toArray, List.set_cons_zero, List.set_cons_succ]
            refine wpAnyH_take (i := 6) (oi := { dst := some 113, op := Op.move (Operand.tmp 2), type := 3, pos := "law.go:206", after := #[{ on := 2, ground := Ground.guard }], guard := some (2, false) }) (v := ?_) rfl (by kernel_rfl) (by kernel_rfl) (by kernel_rfl) (fun _ _ _ h => h) (Or.inl ⟨by rfl, ?_⟩) (by assumption) ?_
            rotate_left
            focus (intro w hSw; (try dsimp only at hSw); go_simp; try (with_reducible rfl))
            try simp only [Act.put, List.setIfInBounds_toArray, List.set_cons_zero, List.set_cons_succ]
            refine wpAnyH_take (i := 7) (oi := { dst := some 114, op := Op.fieldAddr 39 (Operand.tmp 14) 0, type := 0, pos := "law.go:206", after := #[{ on := 2, ground := Ground.guard }], guard := some (2, false) }) (v := ?_) rfl (by kernel_rfl) (by kernel_rfl) (by kernel_rfl) (fun _ _ _ h => h) (Or.inl ⟨by rfl, ?_⟩) (by assumption) ?_
            rotate_left
            focus (intro w hSw; (try dsimp only at hSw); go_simp; try (with_reducible rfl))
            try simp only [Act.put, List.setIfInBounds_toArray, List.set_cons_zero, List.set_cons_succ]
            refine wpAnyH_take (i := 8) (oi := { dst := some 115, op := Op.load 3 (Operand.tmp 114), type := 3, pos := "law.go:206", after := #[{ on := 7, ground := Ground.data }, { on := 2, ground := Ground.guard }], guard := some (2, false) }) (v := ?_) rfl (by kernel_rfl) (by kernel_rfl) (by kernel_rfl) (fun _ _ _ h => h) (Or.inl ⟨by rfl, ?_⟩) (by assumption) ?_
            rotate_left
            focus (intro w hSw; (try dsimp only at hSw); go_simp; try (with_reducible rfl))
            try simp only [Act.put, List.setIfInBounds_toArray, List.set_cons_zero, List.set_cons_succ]
            refine wpAnyH_take (i := 9) (oi := { dst := some 116, op := Op.binOp BinOp.neq 3 (Operand.tmp 113) (Operand.tmp 115) 3, type := 4, pos := "law.go:206", after := #[{ on := 6, ground := Ground.data }, { on := 8, ground := Ground.data }, { on := 2, ground := Ground.guard }], guard := some (2, false) }) (v := ?_) rfl (by kernel_rfl) (by kernel_rfl) (by kernel_rfl) (fun _ _ _ h => h) (Or.inl ⟨by rfl, ?_⟩) (by assumption) ?_
            rotate_left
            focus (intro w hSw; (try dsimp only at hSw); go_simp; try (with_reducible rfl))
            try simp only [Act.put, List.setIfInBounds_toArray, List.set_cons_zero, List.set_cons_succ]
            refine wpAnyH_ready (rs := [5]) (by kernel_rfl) (by simp) (AllReadyH.cons (o := { dst := some 112, op := Op.call { callee := Callee.value (Operand.func 32), args := #[Operand.tmp 110, Operand.tmp 111], argTypes := #[26, 3] }, type := 4, pos := "law.go:206", after := #[{ on := 3, ground := Ground.data }, { on := 4, ground := Ground.data }, { on := 2, ground := Ground.chain }, { on := 2, ground := Ground.guard }], guard := some (2, false) }) rfl (fun K hK => ?_) AllReadyH.nil)
            go_simp
            refine (open_any (WkQ.pl (WkF.q (WkF.drew K6.out))) q HBO.out).mono ?_
            rintro e x7 ⟨he, hb7⟩
            rw [HOPN.out] at he
            subst he
            have K7 := WkF.below (WkF.drew K6.out) hb7
            clear hb7
            go_wp2_with fail
            refine hK.out _ _ (WkF.s2 K7) (fun hHeld => ?_)
            clear hK K
            try simp only [Act.put, List.setIfInBounds_toArray, List.set_cons_zero, List.set_cons_succ]
            refine wpAnyH_take (i := 10) (oi := { dst := some 117, op := Op.move (Operand.tmp 116), type := 4, pos := "law.go:206", after := #[{ on := 9, ground := Ground.data }, { on := 5, ground := Ground.chain }, { on := 2, ground := Ground.guard }], guard := some (2, false) }) (v := ?_) rfl (by kernel_rfl) (by kernel_rfl) (by kernel_rfl) (fun _ _ _ h => h) (Or.inl ⟨by rfl, ?_⟩) (by assumption) ?_
            rotate_left
            focus (intro w hSw; (try dsimp only at hSw); go_simp; try (with_reducible rfl))
            try simp only [Act.put, List.setIfInBounds_toArray, List.set_cons_zero, List.set_cons_succ]
            refine wpAnyH_take (i := 11) (oi := { dst := some 118, op := Op.fieldAddr 39 (Operand.tmp 14) 2, type := 0, pos := "law.go:206", after := #[{ on := 10, ground := Ground.guard }], guard := some (10, true) }) (v := undef) rfl (by kernel_rfl) (by kernel_rfl) (by kernel_rfl) (fun _ _ _ h => h) (Or.inr ⟨by rfl, rfl⟩) (by assumption) ?_
            try simp only [Act.put, List.setIfInBounds_toArray, List.set_cons_zero, List.set_cons_succ]
            refine wpAnyH_take (i := 12) (oi := { dst := some 119, op := Op.load 5 (Operand.tmp 118), type := 5, pos := "law.go:206", after := #[{ on := 11, ground := Ground.data }, { on := 10, ground := Ground.guard }], guard := some (10, true) }) (v := undef) rfl (by kernel_rfl) (by kernel_rfl) (by kernel_rfl) (fun _ _ _ h => h) (Or.inr ⟨by rfl, rfl⟩) (by assumption) ?_
            try simp only [Act.put, List.setIfInBounds_toArray, List.set_cons_zero, List.set_cons_succ]
            refine wpAnyH_take (i := 13) (oi := { dst := some 120, op := Op.binOp BinOp.and 5 (Operand.tmp 119) (Operand.const (Value.int IntKind.u8 32)) 5, type := 5, pos := "law.go:206", after := #[{ on := 12, ground := Ground.data }, { on := 10, ground := Ground.guard }], guard := some (10, true) }) (v := undef) rfl (by kernel_rfl) (by kernel_rfl) (by kernel_rfl) (fun _ _ _ h => h) (Or.inr ⟨by rfl, rfl⟩) (by assumption) ?_
            try simp only [Act.put, List.setIfInBounds_toArray, List.set_cons_zero, List.set_cons_succ]
            refine wpAnyH_take (i := 14) (oi := { dst := some 121, op := Op.binOp BinOp.eql 5 (Operand.tmp 120) (Operand.const (Value.int IntKind.u8 0)) 5, type := 4, pos := "law.go:206", after := #[{ on := 13, ground := Ground.data }, { on := 10, ground := Ground.guard }], guard := some (10, true) }) (v := undef) rfl (by kernel_rfl) (by kernel_rfl) (by kernel_rfl) (fun _ _ _ h => h) (Or.inr ⟨by rfl, rfl⟩) (by assumption) ?_
            try simp only [Act.put, List.setIfInBounds_toArray, List.set_cons_zero, List.set_cons_succ]
            refine wpAnyH_take (i := 15) (oi := { dst := some 122, op := Op.pick (Operand.tmp 117) (Operand.tmp 121) (Operand.const (Value.bool false)), type := 4, pos := "law.go:206", after := #[{ on := 10, ground := Ground.data }, { on := 14, ground := Ground.data }, { on := 2, ground := Ground.guard }], guard := some (2, false) }) (v := ?_) rfl (by kernel_rfl) (by kernel_rfl) (by kernel_rfl) (fun _ _ _ h => h) (Or.inl ⟨by rfl, ?_⟩) (by assumption) ?_
            rotate_left
            focus (intro w hSw; (try dsimp only at hSw); go_simp; try (with_reducible rfl))
            try simp only [Act.put, List.setIfInBounds_toArray, List.set_cons_zero, List.set_cons_succ]
            refine wpAnyH_take (i := 16) (oi := { dst := some 123, op := Op.binOp BinOp.eql 4 (Operand.tmp 112) (Operand.tmp 122) 4, type := 4, pos := "law.go:206", after := #[{ on := 5, ground := Ground.data }, { on := 15, ground := Ground.data }, { on := 2, ground := Ground.guard }], guard := some (2, false) }) (v := ?_) rfl (by kernel_rfl) (by kernel_rfl) (by kernel_rfl) (fun _ _ _ h => h) (Or.inl ⟨by rfl, ?_⟩) (by assumption) ?_
            rotate_left
            focus (intro w hSw; (try dsimp only at hSw); go_simp; try (with_reducible rfl))
            try simp only [Act.put, List.setIfInBounds_toArray, List.set_cons_zero, List.set_cons_succ]
            refine wpAnyH_take (i := 17) (oi := { dst := some 124, op := Op.pick (Operand.tmp 109) (Operand.const (Value.bool true)) (Operand.tmp 123), type := 4, pos := "law.go:206", after := #[{ on := 2, ground := Ground.data }, { on := 16, ground := Ground.data }], guard := none }) (v := ?_) rfl (by kernel_rfl) (by kernel_rfl) (by kernel_rfl) (fun _ _ _ h => h) (Or.inl ⟨by rfl, ?_⟩) (by assumption) ?_
            rotate_left
            focus (intro w hSw; (try dsimp only at hSw); go_simp; try (with_reducible rfl))
            try simp only [Act.put, List.setIfInBounds_toArray, List.set_cons_zero, List.set_cons_succ]
            refine wpAnyH_take (i := 18) (oi := { dst := some 6, op := Op.assign (Operand.tmp 124), type := 4, pos := "law.go:206", after := #[{ on := 17, ground := Ground.data }, { on := 10, ground := Ground.chain }, { on := 0, ground := Ground.phase }, { on := 1, ground := Ground.phase }, { on := 2, ground := Ground.phase }, { on := 3, ground := Ground.phase }, { on := 4, ground := Ground.phase }, { on := 5, ground := Ground.phase }, { on := 6, ground := Ground.phase }, { on := 7, ground := Ground.phase }, { on := 8, ground := Ground.phase }, { on := 9, ground := Ground.phase }, { on := 10, ground := Ground.phase }, { on := 11, ground := Ground.phase }, { on := 12, ground := Ground.phase }, { on := 13, ground := Ground.phase }, { on := 14, ground := Ground.phase }, { on := 15, ground := Ground.phase }, { on := 16, ground := Ground.phase }, { on := 17, ground := Ground.phase }], guard := none }) (v := ?_) rfl (by kernel_rfl) (by kernel_rfl) (by kernel_rfl) (fun _ _ _ h => h) (Or.inl ⟨by rfl, ?_⟩) (by assumption) ?_
            rotate_left
            focus (intro w hSw; (try dsimp only at hSw); go_simp; try (with_reducible rfl))
            try simp only [Act.put, List.setIfInBounds_toArray, List.set_cons_zero, List.set_cons_succ]
            refine wpAnyH_done (by kernel_rfl) ?_ _
            --ENDB
            go_wp2
            go_ret
            exact ⟨rfl, K7.q.old⟩
          · have hqz : (q != z) = true := by simpa using hza
            obtain ⟨pr, hpr⟩ : ∃ pr, pr = Attr.prot yb := ⟨_, rfl⟩
            have HOPN := Lib.hid (show opnL L q = !pr by rw [HOP0.out, ← hpr]; have : (z != q) = true := by simpa using Ne.symm hza
                                                         simp [this])
            have hbits : (bits .and .u8 y6 32 == 0) = !pr := by
              have := HB32.out
              rw [← hpr] at this
              rw [← this]; simp [bne]
            clear hza hpr
            go_wp2_with (first
              | (go_at_call 38; (with_reducible refine HLQ.out.mono ?_); rintro e x1 ⟨rfl, rfl⟩)
              | (go_at_call 27; (with_reducible refine (of_any (WkQ.pl HQ1.out) q HBO.out).mono ?_); rintro e x2 ⟨he, hb2⟩; rw [HOF.out, HIS.out] at he; simp only [Fd.val] at he; subst he; have K6 := Lib.hid (show WkF w b g r c L (.slice a m cap) x2.heap.size x2.heap.size ⟨z, fk, y6⟩ ⟨z, fk, y6⟩ (x2.alloc (.cells #[.int .i64 z, .int .i64 fk, .int .u8 y6] 39)) from ⟨WkQ.below (WkQ.below HQ1.out hb2) (below_alloc x2 _), heap_alloc_new _ _, heap_alloc_new _ _⟩); clear hb2))
            cases pr <;>
            · go_region_held3 (fun X => X.cell? ⟨x2.heap.size, 0, none⟩ = some (.int .i64 z) ∧ X.cell? ⟨x2.heap.size, 2, none⟩ = some (.int .u8 y6) ∧ WkF w b g r c L (.slice a m cap) x2.heap.size x2.heap.size ⟨z, fk, y6⟩ ⟨z, fk, y6⟩ X)
                (with_reducible (first | assumption | exact WkF.s2 (WkF.drew K6.out) | exact WkF.s2 (by assumption)))
                (first | (go_at_call 32; (with_reducible refine (open_any (WkQ.pl (WkF.q (WkF.drew K6.out))) q HBO.out).mono ?_); rintro e x7 ⟨he, hb7⟩; rw [HOPN.out] at he; subst he; have K7 := WkF.below (WkF.drew K6.out) hb7; clear hb7))
              all_goals
                go_wp2
                go_ret
                exact ⟨rfl, K7.q.old⟩
theorem fieldWalks_law {w : World} (r c : Int) {p1 p2 p3 : Prop} (_ : p1) (_ : p2) (v : Value) (L0 : List Cl) (hL : ClsAt w v L0 ∧ L0.length ≤ maxLen ∧ ∀ x ∈ L0, x.Ok) (f : Int) (_ : p3) :
    Calls Try.prog 6 #[.agg #[.int .i64 r, .int .i64 c], v, .int .i64 f] w fun e W => e = .returned (.bool true) ∧ Below w.heap.size w W :=
  walks_law r c v L0 f w hL.1 hL.2.1 hL.2.2
end Go.Proofs.Ytgbekdeedahajaa.Pl
