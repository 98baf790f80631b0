/-
  The library's binary search, at a row of alarms: its contract.
-/
import Derived.Test.YtndhhpiklaffoaaClockB
import Derived.StillTailTactics
namespace Go.Proofs.Ytndhhpiklaffoaa.Clock
open Go.RowKit
open Mail (Turn ret_int ret_bool)
set_option linter.unusedVariables false

theorem below_drewN {B : Nat} {a w : World} (h : Below B a w) (n : Nat) : Below B a (w.drewN n) := ⟨h.os, h.tape, h.output, h.size, h.block⟩
theorem cellL {W w' : World} {a : Addr} {v : Value} (hb : Below W.heap.size W w') (h : W.cell? a = some v) : w'.cell? a = some v := (hb.cell (World.block_lt_of_cell? W a h)).trans h
theorem fourKeep {w W w' : World} {a1 a2 a3 a4 : Addr} {v1 v2 v3 v4 : Value} (hb : Below W.heap.size W w') (h : W.cell? a1 = some v1 ∧ W.cell? a2 = some v2 ∧ W.cell? a3 = some v3 ∧ W.cell? a4 = some v4 ∧ Below w.heap.size w W) :
    w'.cell? a1 = some v1 ∧ w'.cell? a2 = some v2 ∧ w'.cell? a3 = some v3 ∧ w'.cell? a4 = some v4 ∧ Below w.heap.size w w' :=
  ⟨cellL hb h.1, cellL hb h.2.1, cellL hb h.2.2.1, cellL hb h.2.2.2.1, h.2.2.2.2.trans (hb.mono h.2.2.2.2.size)⟩
/-- Whatever stands ahead of one that comes ahead of t comes ahead of t. -/
def Mono (L : List (Int × Int)) (t : Int × Int) : Prop := ∀ i j, i ≤ j → j < L.length → ordI (L.getD j (0, 0)) t < 0 → ordI (L.getD i (0, 0)) t < 0
/-- What the search knows: what lies ahead of lo comes ahead of t, what lies from hi on doesn't. -/
def BsRel (w : World) (L : List (Int × Int)) (t : Int × Int) (n : Nat) (lo hi : Value) (wr : World) : Prop :=
  ∃ i j : Nat, i ≤ j ∧ j ≤ n ∧ lo = .int .i64 i ∧ hi = .int .i64 j ∧ (∀ l, l < i → ordI (L.getD l (0, 0)) t < 0) ∧ (∀ l, j ≤ l → l < n → 0 ≤ ordI (L.getD l (0, 0)) t) ∧ Below w.heap.size w wr
/-- What the search answers. -/
def BsPost (w : World) (L : List (Int × Int)) (t : Int × Int) (e : Ending) (w' : World) : Prop :=
  ∃ (i : Nat) (f : Bool), e = .returned (.tuple #[.int .i64 i, .bool f]) ∧ i ≤ L.length ∧ (∀ l, l < i → ordI (L.getD l (0, 0)) t < 0) ∧ (∀ l, i ≤ l → l < L.length → 0 ≤ ordI (L.getD l (0, 0)) t) ∧ Below w.heap.size w w'
set_option maxRecDepth 100000 in
set_option maxHeartbeats 2000000 in
theorem search_any {b : Nat} {now : Int} {L : List (Int × Int)} (t1 t2 : Int) (w : World) (h : ClockAt w b now L) (hm : Mono L (t1, t2)) :
    Calls Try.prog 52 #[.slice (some ⟨b, 1, none⟩) L.length 64, .agg #[.int .i64 t1, .int .i64 t2], .func (.func 53) #[] #[]] w (BsPost w L (t1, t2)) := by
  obtain ⟨n, hn⟩ : ∃ n, n = L.length := ⟨_, rfl⟩
  have hl := h.le
  rw [← hn] at hl ⊢
  have HN := Lib.hid hn
  have HH := Lib.hid h
  have HM := Lib.hid hm
  have hb0 : Below w.heap.size w (w.alloc (.cells #[.int .i64 t1, .int .i64 t2] 54)) := (Below.refl _ w).alloc (Nat.le_refl _) _
  have a1 : (w.alloc (.cells #[.int .i64 t1, .int .i64 t2] 54)).cell? ⟨w.heap.size, 0, none⟩ = some (.int .i64 t1) := by simp [go_sem]
  have a2 : (w.alloc (.cells #[.int .i64 t1, .int .i64 t2] 54)).cell? ⟨w.heap.size, 1, none⟩ = some (.int .i64 t2) := by simp [go_sem]
  obtain ⟨W, hW⟩ : ∃ W, W = w.alloc (.cells #[.int .i64 t1, .int .i64 t2] 54) := ⟨_, rfl⟩
  rw [← hW] at hb0 a1 a2
  have hWz : W.heap.size = w.heap.size + 1 := by rw [hW]; simp
  have HW := Lib.hid hW
  have A1 := Lib.hid a1
  have A2 := Lib.hid a2
  have HB0 := Lib.hid hb0
  have HWZ := Lib.hid hWz
  clear hn h hm hW a1 a2 hb0 hWz
  go_enter Try.func52, Try.ntmps52
  go_wp2
  rw [← HW.out]
  go_loopw [9, 10] (fun lo hi wr => BsRel W L (t1, t2) n lo hi wr) (fun lo hi _ => ((intOf hi) - (intOf lo)).toNat)
  case atStart => exact ⟨0, n, by omega, by omega, rfl, rfl, fun l hl => absurd hl (by omega), fun l hl hl2 => absurd hl2 (by omega), Below.refl _ _⟩
  case round =>
    obtain ⟨i, j, hij, hjn, rfl, rfl, hlo, hhi, hb⟩ := hrel
    have HLO := Lib.hid hlo
    have HHI := Lib.hid hhi
    clear hlo hhi
    by_cases hlt : i < j
    · have hlti : (i : Int) < (j : Int) := by omega
      have HB := Lib.hid hb
      clear hb
      go_wp2
      obtain ⟨m, hmm⟩ : ∃ m : Nat, m = (i + j) / 2 := ⟨_, rfl⟩
      have hme : ((i : Int) + (j : Int)) / 2 = (m : Int) := by omega
      have hmi : i ≤ m ∧ m < j := by omega
      obtain ⟨hm1, hm2⟩ := hmi
      have hmn : (m : Int) < (n : Int) := by omega
      rw [hme]
      have hbw := (HB0.out).trans (HB.out.mono (by have := HWZ.out; omega))
      have h1 := HH.out.below hbw
      have d1 := h1.cellDue m (by have := HN.out; omega)
      have d2 := h1.cellId m (by have := HN.out; omega)
      have e1 := (HB.out.cell (p := ⟨w.heap.size, 0, none⟩) (by have := HWZ.out; show w.heap.size < _; omega)).trans A1.out
      have e2 := (HB.out.cell (p := ⟨w.heap.size, 1, none⟩) (by have := HWZ.out; show w.heap.size < _; omega)).trans A2.out
      obtain ⟨p, hp⟩ : ∃ p, p = L.getD m (0, 0) := ⟨_, rfl⟩
      rw [← hp] at d1 d2
      have HP := Lib.hid hp
      have HME := Lib.hid hme
      clear hp h1 hbw hme hmm
      obtain ⟨p1, p2⟩ := p
      have hbd : Below W.heap.size W wr.drew := HB.out.drew
      have HBD := Lib.hid hbd
      clear hbd
      obtain ⟨o, ho⟩ : ∃ o, o = ordI (p1, p2) (t1, t2) := ⟨_, rfl⟩
      have HO := Lib.hid ho
      clear ho
      by_cases hc : o < 0
      · go_still_tail 6, (by kernel_rfl)
        change wpList _ _ _ _ _ wr.drew
        go_wp2_with (go_at_call 53; refine (order_any _ _ _ _ _).mono ?_; rintro e w' ⟨rfl, hb'⟩; rw [← HO.out])
        go_roundw
        case rel =>
          refine ⟨m + 1, j, by omega, by omega, by go_num, rfl, fun l hl => ?_, HHI.out, HBD.out.trans (hb'.mono HBD.out.size)⟩
          refine HM.out l m (by omega) (by have := HN.out; omega) ?_
          rw [← HP.out, ← HO.out]
          exact hc
        case measure => simp [intOf]; omega
      · have hc' : 0 ≤ o := by omega
        go_still_tail 6, (by kernel_rfl)
        change wpList _ _ _ _ _ wr.drew
        go_wp2_with (go_at_call 53; refine (order_any _ _ _ _ _).mono ?_; rintro e w' ⟨rfl, hb'⟩; rw [← HO.out])
        go_roundw
        case rel =>
          refine ⟨i, m, by omega, by omega, rfl, rfl, HLO.out, fun l hl hln => Int.not_lt.1 fun hneg => ?_, HBD.out.trans (hb'.mono HBD.out.size)⟩
          have := HM.out m l hl (by have := HN.out; omega) hneg
          rw [← HP.out, ← HO.out] at this
          omega
        case measure => simp [intOf]; omega
    · obtain rfl : i = j := by omega
      have hb2 : Below w.heap.size w wr := HB0.out.trans (hb.mono (by have := HWZ.out; omega))
      have HB := Lib.hid hb
      have HB2 := Lib.hid hb2
      clear hb hb2
      by_cases hin : i < n
      · have hini : (i : Int) < (n : Int) := by omega
        have h1 := HH.out.below HB2.out
        have d1 := h1.cellDue i (by have := HN.out; omega)
        have d2 := h1.cellId i (by have := HN.out; omega)
        have e1 := (HB.out.cell (p := ⟨w.heap.size, 0, none⟩) (by have := HWZ.out; show w.heap.size < _; omega)).trans A1.out
        have e2 := (HB.out.cell (p := ⟨w.heap.size, 1, none⟩) (by have := HWZ.out; show w.heap.size < _; omega)).trans A2.out
        obtain ⟨p, hp⟩ : ∃ p, p = L.getD i (0, 0) := ⟨_, rfl⟩
        rw [← hp] at d1 d2
        clear hp h1
        obtain ⟨p1, p2⟩ := p
        have hbd : Below w.heap.size w wr.drew := HB2.out.drew
        have HBD := Lib.hid hbd
        clear hbd
        obtain ⟨o, ho⟩ : ∃ o, o = ordI (p1, p2) (t1, t2) := ⟨_, rfl⟩
        have HO := Lib.hid ho
        clear ho
        go_wp2
        have hb2 := HB2.out
        go_region_held3 (fun w' => w'.cell? ⟨b, 1 + i * 2, none⟩ = some (.int .i64 p1) ∧ w'.cell? ⟨b, 1 + i * 2 + 1, none⟩ = some (.int .i64 p2) ∧ w'.cell? ⟨w.heap.size, 0, none⟩ = some (.int .i64 t1) ∧ w'.cell? ⟨w.heap.size, 1, none⟩ = some (.int .i64 t2) ∧ Below w.heap.size w w')
          ((first | exact fourKeep (by assumption) (by assumption) | (refine ⟨?_, ?_, ?_, ?_, ?_⟩ <;> first | assumption | exact Below.drew (by assumption) | go_keep)))
          (first | (go_at_call 53; refine (order_any _ _ _ _ _).mono ?_; rintro e w' ⟨rfl, hb'⟩; rw [← HO.out]))
        go_wp2
        go_ret2
        exact ⟨i, _, rfl, by rw [← HN.out]; omega, HLO.out, by rw [← HN.out]; exact HHI.out, HBD.out.trans (hb'.mono HBD.out.size)⟩
      · have hini : ¬ (i : Int) < (n : Int) := by omega
        have hd : decide ((i : Int) < (n : Int)) = false := by simp; omega
        go_wp2
        go_quiet (fail)
        go_wp2
        go_ret2
        exact ⟨i, _, rfl, by rw [← HN.out]; omega, HLO.out, by rw [← HN.out]; exact HHI.out, below_drewN HB2.out _⟩
end Go.Proofs.Ytndhhpiklaffoaa.Clock
