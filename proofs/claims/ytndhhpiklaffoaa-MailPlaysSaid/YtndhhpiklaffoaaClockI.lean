/-
  The statements' own example (a clock, step by step): its contract.
-/
import Derived.Test.YtndhhpiklaffoaaClockH
import Derived.Deep.WholeRow
namespace Go.Proofs.Ytndhhpiklaffoaa.Clock
open Go.RowKit
open Mail (Turn ret_int ret_bool sameInts_any RowOf ownsRow_base)
set_option linter.unusedVariables false

/-- A clock of the call's own, in block s. -/
structure One (s : Nat) (w W : World) (now : Int) (L : List (Int × Int)) : Prop where
  clock : ClockAt W s now L
  wf : WF now L
  old : Below s w W
def Rung (s : Nat) (W : World) (v : Value) (X : List Int) : Prop := W.ownsRow (s + 1) 3 1 v X.length (X.map (Value.int .i64))
theorem Rung.turn {s : Nat} {W W' : World} {v : Value} {X : List Int} (h : Rung s W v X) (t : Turn (At s) W W') : Rung s W' v X := row_turn h (by omega) t
theorem Rung.row {s : Nat} {W : World} {v : Value} {X : List Int} (h : Rung s W v X) : RowOf .i64 W v X := RowOf.of_owns h
section
variable {s : Nat} {w W : World} {now : Int} {L : List (Int × Int)}
theorem One.lt (h : One s w W now L) : s < W.heap.size := h.clock.lt
theorem One.turn {W' : World} {now' : Int} {L' : List (Int × Int)} (h : One s w W now L) (c : ClockAt W' s now' L') (f : WF now' L') (u : Turn (At s) W W') : One s w W' now' L' :=
  ⟨c, f, h.old.trans (u.below (by have := h.lt; omega) (by unfold At; omega))⟩
theorem One.below {W' : World} (h : One s w W now L) (u : Below (s + 1) W W') : One s w W' now L :=
  ⟨h.clock.keep (u.block s (by omega)), h.wf, h.old.trans (u.mono (by omega))⟩
theorem One.drewN (h : One s w W now L) (n : Nat) : One s w (W.drewN n) now L := ⟨h.clock.drewN n, h.wf, below_drewN h.old n⟩
theorem set_one (id t x : Int) (L' : List (Int × Int)) (h : One s w W now L) (hx : setE L id t = x) (hl : putA now L id t = L') :
    Calls Try.prog 27 #[.pointer (some ⟨s, 0, none⟩), .int .i64 id, .int .i64 t] W fun e W' => e = .returned (.int .i64 x) ∧ One s w W' now L' ∧ Turn (At s) W W' := by
  subst hx hl
  exact (set_any id t h.clock h.wf).mono fun e W' ⟨he, c, u⟩ => ⟨he, h.turn c (h.wf.put id t) u, u⟩
theorem drop_one (id : Int) (x : Bool) (L' : List (Int × Int)) (h : One s w W now L) (hx : has L id = x) (hl : dropL L id = L') :
    Calls Try.prog 31 #[.pointer (some ⟨s, 0, none⟩), .int .i64 id] W fun e W' => e = .returned (.bool x) ∧ One s w W' now L' ∧ Turn (At s) W W' := by
  subst hx hl
  exact (drop_any id h.clock h.wf.ids).mono fun e W' ⟨he, c, u⟩ => ⟨he, h.turn c (h.wf.drop id) u, u⟩
theorem left_one (id x : Int) (t : Bool) (h : One s w W now L) (hx : leftI now L id = x) (ht : has L id = t) :
    Calls Try.prog 34 #[.pointer (some ⟨s, 0, none⟩), .int .i64 id] W fun e W' => e = .returned (.tuple #[.int .i64 x, .bool t]) ∧ One s w W' now L ∧ Turn (At s) W W' := by
  subst hx ht
  exact (left_any id h.clock h.wf).mono fun e W' ⟨he, u⟩ => ⟨he, h.turn (h.clock.below u) h.wf (Mail.Turn.of_below u), Mail.Turn.of_below u⟩
theorem stepI_bd (wf : WF now L) (t : Int) : now ≤ stepI now t ∧ stepI now t ≤ MT := lateI_bd wf.n0 wf.n1 (by omega)
theorem go_one (t now' : Int) (X : List Int) (L' : List (Int × Int)) (h : One s w W now L) (h1 : stepI now t = now') (h2 : rungL now' L = X) (h3 : restL now' L = L') :
    Calls Try.prog 32 #[.pointer (some ⟨s, 0, none⟩), .int .i64 t] W fun e W' => ∃ v, e = .returned v ∧ Rung s W' v X ∧ One s w W' now' L' ∧ Turn (At s) W W' := by
  subst h1 h2 h3
  refine (go_any t W h.clock h.wf).mono ?_
  rintro e W' ⟨v, rfl, r, c, u⟩
  have := stepI_bd h.wf t
  exact ⟨v, rfl, ownsRow_base r (by have := h.lt; omega), h.turn c (h.wf.go (by have := h.wf.n0; omega) this.2) u, u⟩
theorem same_one {v u : Value} {X Y : List Int} (h : One s w W now L) (hx : RowOf .i64 W v X) (hy : RowOf .i64 W u Y) (hm : X.length ≤ maxLen) :
    Calls Try.prog 19 #[v, u] W fun e W' => e = .returned (.bool (decide (X = Y))) ∧ One s w W' now L ∧ Turn (At s) W W' := by
  refine (sameInts_any v u X Y W hx hy hm).mono ?_
  rintro e W' ⟨rfl, n, rfl⟩
  exact ⟨rfl, h.drewN n, ⟨rfl, rfl, rfl, Nat.le_refl _, fun _ _ _ => rfl⟩⟩
end
theorem row_one (W : World) (x : Int) : RowOf .i64 (W.alloc (.cells #[.int .i64 x] 3)) (.slice (some ⟨W.heap.size, 0, none⟩) 1 1) [x] := by
  refine ⟨_, 1, rfl, fun _ => ⟨_, 0, rfl, fun i hi => ?_⟩⟩
  obtain rfl : i = 0 := by simpa using hi
  simp [go_sem]
theorem one_alloc {s : Nat} {w W : World} {now : Int} {L : List (Int × Int)} (h : One s w W now L) (o : Obj) : One s w (W.alloc o) now L :=
  h.below ((Below.refl _ _).alloc (by have := h.lt; omega) o)
theorem turn_alloc (s : Nat) (W : World) (o : Obj) : Turn (At s) W (W.alloc o) := Mail.Turn.of_below ((Below.refl _ W).alloc (Nat.le_refl _) o)
theorem clock_new (w : World) : ClockAt (w.alloc (.cells (clk 0 (fun _ => (0, 0)) 0) 57)) w.heap.size 0 [] :=
  ⟨fun _ => (0, 0), fun i hi => absurd hi (by simp), by simp, heap_alloc_new w _⟩
theorem wf_new : WF 0 [] := ⟨by simp, by simp [MT], by simp, by simp, by simp⟩
theorem one_new (w : World) : One w.heap.size w (w.alloc (.cells (clk 0 (fun _ => (0, 0)) 0) 57)) 0 [] :=
  ⟨clock_new w, wf_new, (Below.refl _ w).alloc (Nat.le_refl _) _⟩
set_option maxRecDepth 100000 in
set_option maxHeartbeats 4000000 in
theorem alive_any (w : World) : Calls Try.prog 26 #[] w fun e W' => e = .returned (.bool true) ∧ Below w.heap.size w W' := by
  have hz := (zero_of_info info_clock).1
  have T0 := one_new w
  obtain ⟨s, hs⟩ : ∃ s, s = w.heap.size := ⟨_, rfl⟩
  obtain ⟨W, hW⟩ : ∃ W, W = w.alloc (.cells (clk 0 (fun _ => (0, 0)) 0) 57) := ⟨_, rfl⟩
  rw [← hW, ← hs] at T0
  have HW := Lib.hid hW.symm
  have HS := Lib.hid hs.symm
  have T0 := Lib.hid T0
  clear hW hs
  go_enter Try.func26, Try.ntmps26
  go_wp2_with fail
  rw [HW.out, HS.out]
  refine (set_one 7 3 0 [(3, 7)] T0.out (by decide +kernel) (by decide +kernel)).mono ?_
  rintro e W1 ⟨rfl, T1, _⟩
  have T1 := Lib.hid T1
  clear HW T0
  go_wp2_with fail
  refine (set_one 9 2 0 [(2, 9), (3, 7)] T1.out (by decide +kernel) (by decide +kernel)).mono ?_
  rintro e W2 ⟨rfl, T2, _⟩
  have T2 := Lib.hid T2
  clear T1
  go_wp2_with fail
  refine (set_one 9 (-1) 1 [(2, 9), (3, 7)] T2.out (by decide +kernel) (by decide +kernel)).mono ?_
  rintro e W3 ⟨rfl, T3, _⟩
  have T3 := Lib.hid T3
  clear T2
  go_wp2_with fail
  refine (show Calls Try.prog 38 #[.pointer (some ⟨s, 0, none⟩)] W3 fun e w' => e = .returned (.int .i64 2) ∧ W3 = w' from len_any T3.out.clock).mono ?_
  rintro e W' ⟨rfl, rfl⟩
  go_wp2_with fail
  refine (show Calls Try.prog 36 #[.pointer (some ⟨s, 0, none⟩)] W3 fun e w' => e = .returned (.tuple #[.int .i64 2, .bool true]) ∧ W3 = w' from next_some T3.out.clock).mono ?_
  rintro e W' ⟨rfl, rfl⟩
  go_wp2_with fail
  refine (go_one 2 2 [9] [(3, 7)] T3.out (by decide +kernel) (by decide +kernel) (by decide +kernel)).mono ?_
  rintro e W4 ⟨v1, rfl, R1, T4, _⟩
  have T4 := Lib.hid T4
  have R1 := Lib.hid R1
  clear T3
  go_wp2_with fail
  refine (go_one 1 3 [7] [] T4.out (by decide +kernel) (by decide +kernel) (by decide +kernel)).mono ?_
  rintro e W5 ⟨v2, rfl, R2, T5, u⟩
  have R1 := Lib.hid (R1.out.turn u)
  have T5 := Lib.hid T5
  have R2 := Lib.hid R2
  clear T4 u
  go_wp2_with fail
  refine (next_none T5.out.clock).mono ?_
  rintro e W' ⟨rfl, rfl⟩
  go_wp2_with fail
  refine (set_one 4 5 0 [(8, 4)] T5.out (by decide +kernel) (by decide +kernel)).mono ?_
  rintro e W6 ⟨rfl, T6, u⟩
  have R1 := Lib.hid (R1.out.turn u)
  have R2 := Lib.hid (R2.out.turn u)
  have T6 := Lib.hid T6
  clear T5 u
  go_wp2_with fail
  refine (left_one 4 5 true T6.out (by decide +kernel) (by decide +kernel)).mono ?_
  rintro e W7 ⟨rfl, T7, u⟩
  have R1 := Lib.hid (R1.out.turn u)
  have R2 := Lib.hid (R2.out.turn u)
  have T7 := Lib.hid T7
  clear T6 u
  go_wp2_with fail
  have u := turn_alloc s W7 (.cells #[.int .i64 9] 3)
  refine (same_one (one_alloc T7.out _) (R1.out.turn u).row (row_one W7 9) (by simp [maxLen])).mono ?_
  rintro e W8 ⟨rfl, T8, u'⟩
  have R2 := Lib.hid (R2.out.turn (u.trans u'))
  have T8 := Lib.hid T8
  clear T7 u u' R1
  go_wp2_with fail
  have u := turn_alloc s W8 (.cells #[.int .i64 7] 3)
  refine (same_one (one_alloc T8.out _) (R2.out.turn u).row (row_one W8 7) (by simp [maxLen])).mono ?_
  rintro e W9 ⟨rfl, T9, u'⟩
  have T9 := Lib.hid T9
  clear T8 u u' R2
  go_wp2_with fail
  refine (now_any T9.out.clock).mono ?_
  rintro e W' ⟨rfl, rfl⟩
  go_wp2_with fail
  refine (drop_one 4 true [] T9.out (by decide +kernel) (by decide +kernel)).mono ?_
  rintro e W10 ⟨rfl, T10, _⟩
  have T10 := Lib.hid T10
  clear T9
  go_wp2_with fail
  refine (drop_one 4 false [] T10.out (by decide +kernel) (by decide +kernel)).mono ?_
  rintro e W11 ⟨rfl, T11, _⟩
  have T11 := Lib.hid T11
  clear T10
  go_wp2
  go_ret
  refine ⟨rfl, ?_⟩
  have := T11.out.old
  rw [← HS.out] at this
  exact this
end Go.Proofs.Ytndhhpiklaffoaa.Clock
