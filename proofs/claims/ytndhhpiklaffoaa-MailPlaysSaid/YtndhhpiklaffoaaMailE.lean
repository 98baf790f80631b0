/-
  The statements' own example (two queues, step by step): its contract.
-/
import Derived.Test.YtndhhpiklaffoaaMailD
namespace Go.Proofs.Ytndhhpiklaffoaa.Mail
open Go.RowKit Go.Conc Go.Shelf
attribute [local go_sem] Oper.semAt_some
set_option linter.unusedVariables false

/-- Two queues of the call's own, made one behind the other. -/
structure Two (s : Nat) (w W : World) (xs ys : List Int) (t : Bool) : Prop where
  one : QAt W s 2 xs false
  two : QAt W (s + 2) 1 ys t
  old : Below s w W
section
variable {s : Nat} {w W : World} {xs ys : List Int} {t : Bool}
theorem Two.turn1 {W' : World} {xs' : List Int} (h : Two s w W xs ys t) (q : QAt W' s 2 xs' false) (u : Turn (Of s) W W') : Two s w W' xs' ys t := by
  have := h.one.lt
  exact ⟨q, h.two.keep u (by unfold Of; omega) (by unfold Of; omega), h.old.trans (u.below (by omega) (by unfold Of; omega))⟩
theorem Two.turn2 {W' : World} {ys' : List Int} {t' : Bool} (h : Two s w W xs ys t) (q : QAt W' (s + 2) 1 ys' t') (u : Turn (Of (s + 2)) W W') : Two s w W' xs ys' t' := by
  have := h.one.lt
  exact ⟨h.one.keep u (by unfold Of; omega) (by unfold Of; omega), q, h.old.trans (u.below (by omega) (by unfold Of; omega))⟩
theorem Two.below {W' : World} (h : Two s w W xs ys t) (u : Below (s + 4) W W') : Two s w W' xs ys t :=
  ⟨h.one.below u (by omega), h.two.below u (by omega), h.old.trans (u.mono (by omega))⟩
theorem Two.drewN (h : Two s w W xs ys t) (n : Nat) : Two s w (W.drewN n) xs ys t := ⟨h.one.drewN n, h.two.drewN n, ⟨h.old.os, h.old.tape, h.old.output, h.old.size, h.old.block⟩⟩
theorem Two.lt (h : Two s w W xs ys t) : s + 4 ≤ W.heap.size := by have := h.two.lt; omega
theorem put1 (x : Int) (h : Two s w W xs ys t) : Calls Try.prog 21 #[.pointer (some ⟨s + 1, 0, none⟩), .int .i64 x] W fun e W' => e = .returned (.int .i64 (putE 2 xs false)) ∧ Two s w W' (putL 2 xs false x) ys t :=
  (put_any s 2 xs false x W h.one).mono fun e W' ⟨he, q, u, _⟩ => ⟨he, h.turn1 q u⟩
theorem put2 (x : Int) (h : Two s w W xs ys t) : Calls Try.prog 21 #[.pointer (some ⟨s + 2 + 1, 0, none⟩), .int .i64 x] W fun e W' => e = .returned (.int .i64 (putE 1 ys t)) ∧ Two s w W' xs (putL 1 ys t x) t :=
  (put_any (s + 2) 1 ys t x W h.two).mono fun e W' ⟨he, q, u, _⟩ => ⟨he, h.turn2 q u⟩
theorem get1 (h : Two s w W xs ys t) : Calls Try.prog 23 #[.pointer (some ⟨s + 1, 0, none⟩)] W fun e W' => e = .returned (.tuple #[.int .i64 (xs.headD 0), .bool (!xs.isEmpty)]) ∧ Two s w W' xs.tail ys t :=
  (get_any s 2 xs false W h.one).mono fun e W' ⟨he, q, u, _⟩ => ⟨he, h.turn1 q u⟩
theorem room1 (h : Two s w W xs ys t) : Calls Try.prog 16 #[.pointer (some ⟨s + 1, 0, none⟩)] W fun e W' => e = .returned (.int .i64 (roomL 2 xs false)) ∧ Two s w W' xs ys t :=
  (room_any s 2 xs false W h.one).mono fun e W' ⟨he, n, hw⟩ => ⟨he, by rw [hw]; exact h.drewN n⟩
theorem room2 (h : Two s w W xs ys t) : Calls Try.prog 16 #[.pointer (some ⟨s + 2 + 1, 0, none⟩)] W fun e W' => e = .returned (.int .i64 (roomL 1 ys t)) ∧ ∃ n, W' = W.drewN n :=
  room_any (s + 2) 1 ys t W h.two
theorem shut2 (h : Two s w W xs ys t) : Calls Try.prog 22 #[.pointer (some ⟨s + 2 + 1, 0, none⟩)] W fun e W' => e = .returned (.tuple #[]) ∧ Two s w W' xs ys true :=
  (shut_any (s + 2) 1 ys t W h.two).mono fun e W' ⟨he, q, u, _⟩ => ⟨he, h.turn2 q u⟩
theorem pour12 (h : Two s w W xs ys t) : Calls Try.prog 24 #[.pointer (some ⟨s + 1, 0, none⟩), .pointer (some ⟨s + 2 + 1, 0, none⟩)] W fun e W' => e = .returned (.int .i64 (pourN 1 t xs ys)) ∧ Two s w W' (xs.drop (pourN 1 t xs ys)) (ys ++ xs.take (pourN 1 t xs ys)) t :=
  (pour_any s 2 (s + 2) 1 xs ys false t W h.one h.two (by omega)).mono fun e W' ⟨he, q1, q2, u, _⟩ =>
    ⟨he, q1, q2, h.old.trans (u.below (by have := h.one.lt; omega) (by unfold Or2 Of; omega))⟩
end
theorem two_new (w W1 W2 : World) (h1 : QAt W1 w.heap.size 2 [] false) (b1 : Below w.heap.size w W1) (z1 : W1.heap.size = w.heap.size + 2) (h2 : QAt W2 W1.heap.size 1 [] false) (b2 : Below W1.heap.size W1 W2) : Two w.heap.size w W2 [] [] false :=
  ⟨h1.below b2 (by omega), by rw [z1] at h2; exact h2, b1.trans (b2.mono (by omega))⟩
theorem ptrs2 (s : Nat) (W : World) (u : Value) :
    PtrsAt (W.alloc (.cells #[.pointer (some ⟨s + 1, 0, none⟩), .pointer (some ⟨s + 2 + 1, 0, none⟩)] 24)) (.slice (some ⟨W.heap.size, 0, none⟩) 2 2) [s, s + 2] := by
  refine ⟨_, 2, rfl, fun _ => ⟨_, 0, rfl, fun i hi => ?_⟩⟩
  rcases i with _ | _ | i
  · simp [go_sem]
  · simp [go_sem]
  · simp at hi; omega
/-- In both queues, the first one empty, x waits. -/
theorem first12 {s : Nat} {w W : World} {x : Int} {ys : List Int} {t : Bool} (h : Two s w W [] (x :: ys) t) :
    Calls Try.prog 25 #[.slice (some ⟨W.heap.size, 0, none⟩) 2 2] (W.alloc (.cells #[.pointer (some ⟨s + 1, 0, none⟩), .pointer (some ⟨s + 2 + 1, 0, none⟩)] 24)) fun e W' => e = .returned (.tuple #[.int .i64 x, .int .i64 1, .bool true]) ∧ Two s w W' [] ys t := by
  have h' : Two s w (W.alloc (.cells #[.pointer (some ⟨s + 1, 0, none⟩), .pointer (some ⟨s + 2 + 1, 0, none⟩)] 24)) [] (x :: ys) t := h.below ((Below.refl _ _).alloc h.lt _)
  refine (first_some _ [s, s + 2] 1 1 x ys t _ (ptrs2 s W undef) (by simp) (by simp) ?_ h'.two).mono fun e W' ⟨he, q, u, _⟩ => ⟨he, h'.turn2 q u⟩
  intro j hj
  obtain rfl : j = 0 := by omega
  exact ⟨2, false, h'.one⟩

/-- What the loop that adds up knows: k of the things were taken, and added. -/
def SumAt (s K : Nat) (w : World) (k : Nat) (W : World) : Prop :=
  k ≤ 1 ∧ Boxed W K 3 (.int .i64 (if k = 0 then 0 else 5)) ∧ Boxed W (K + 1) 24 (.pointer (some ⟨s + 2 + 1, 0, none⟩)) ∧ Two s w W [] (List.drop k [5]) true
def SumAt' (s K : Nat) (w : World) (k : Nat) (W : World) : Prop :=
  k = 0 ∧ Boxed W K 3 (.int .i64 0) ∧ Boxed W (K + 1) 24 (.pointer (some ⟨s + 2 + 1, 0, none⟩)) ∧ Two s w W [] [] true
theorem two_grown {s K : Nat} {w X Y : World} {ys : List Int} {t : Bool} {row : Option Nat} (hs : s + 4 ≤ K) (hz : K + 2 ≤ X.heap.size) (h : Two s w X [] ys t) (hg : X.grownBy Y row) (hr : ∀ r, row = some r → K + 2 ≤ r) : Two s w Y [] ys t :=
  h.below ((Below.refl (s + 4) X).grown hg (by omega) (fun r e => by have := hr r e; omega))
theorem SumAt.grown {s K : Nat} {w X Y : World} {k : Nat} {row : Option Nat} (hs : s + 4 ≤ K) (h : SumAt s K w k X) (hg : X.grownBy Y row) (hr : ∀ r, row = some r → K + 2 ≤ r) : SumAt s K w k Y := by
  obtain ⟨hk, b0, b1, T⟩ := h
  have := b1.lt
  exact ⟨hk, b0.kept hg (fun e => by have := hr K e.symm; omega), b1.kept hg (fun e => by have := hr (K + 1) e.symm; omega), two_grown hs (by omega) T hg hr⟩
theorem SumAt'.grown {s K : Nat} {w X Y : World} {k : Nat} {row : Option Nat} (hs : s + 4 ≤ K) (h : SumAt' s K w k X) (hg : X.grownBy Y row) (hr : ∀ r, row = some r → K + 2 ≤ r) : SumAt' s K w k Y := by
  obtain ⟨hk, b0, b1, T⟩ := h
  have := b1.lt
  exact ⟨hk, b0.kept hg (fun e => by have := hr K e.symm; omega), b1.kept hg (fun e => by have := hr (K + 1) e.symm; omega), two_grown hs (by omega) T hg hr⟩
theorem SumAt.got {s K : Nat} {w X Y : World} {k : Nat} (hs : s + 4 ≤ K) (hk : k < 1) (h : SumAt s K w k X) (q : QAt Y (s + 2) 1 (List.drop (k + 1) [5]) true) (t : Turn (Of (s + 2)) X Y) : SumAt' s K w k Y := by
  obtain ⟨_, b0, b1, T⟩ := h
  obtain rfl : k = 0 := by omega
  have l1 := b1.lt
  exact ⟨rfl, (t.block K (by omega) (by unfold Of; omega)).trans b0, (t.block (K + 1) l1 (by unfold Of; omega)).trans b1, T.turn2 q t⟩
theorem SumAt.set {s K : Nat} {w W : World} (hs : s + 4 ≤ K) (b0 : Boxed W K 3 (.int .i64 0)) (b1 : Boxed W (K + 1) 24 (.pointer (some ⟨s + 2 + 1, 0, none⟩))) (T : Two s w W [] [] true) :
    SumAt s K w (0 + 1) (W.setCell ⟨K, 0, none⟩ (.int .i64 5)) :=
  ⟨by omega, b0.set _, (Below.heap_setCell _ _ _ _ (by show K + 1 ≠ K; omega)).trans b1, T.below ((Below.refl _ _).setCell (by show s + 4 ≤ K; omega) _)⟩

set_option maxRecDepth 100000 in
set_option maxHeartbeats 4000000 in
theorem alive_in (m : Nat) (hm : 3 ≤ m) (w : World) :
    CallsIn Fence.wide m Try.prog 11 #[] w fun e W' => e = .returned (.bool true) ∧ Below w.heap.size w W' := by
  have h1 : 1 ≤ m := by omega
  refine callsIn_of_wp_marks Try.func11 rfl trivial ?_ rfl
  simp only [Try.ntmps11, List.size_toArray, List.length_nil, Nat.reduceSub, Array.replicate_succ, Array.replicate_zero, List.push_toArray, List.append_toArray, List.nil_append, List.cons_append]
  gi_wp2_with fail
  refine ⟨trivial, ?_⟩
  refine (callsIn_wide.2 (new_any 2 w)).mono ?_
  rintro e W1 ⟨rfl, q1, b1, z1⟩
  gi_wp2_with fail
  refine ⟨trivial, ?_⟩
  refine (callsIn_wide.2 (new_any 1 W1)).mono ?_
  rintro e W2 ⟨rfl, q2, b2, z2⟩
  have T0 := two_new w W1 W2 q1 b1 z1 q2 b2
  rw [z1]
  clear q1 q2 b1 b2 z1 z2
  gi_wp2_with fail
  refine ⟨trivial, ?_⟩
  refine (callsIn_wide.2 (show Calls Try.prog 21 #[.pointer (some ⟨w.heap.size + 1, 0, none⟩), .int .i64 7] W2 fun e W' => e = .returned (.int .i64 0) ∧ Two w.heap.size w W' [7] [] false from put1 7 T0)).mono ?_
  rintro e W3 ⟨rfl, T1⟩
  clear T0
  gi_wp2_with fail
  refine ⟨trivial, ?_⟩
  refine (callsIn_wide.2 (show Calls Try.prog 21 #[.pointer (some ⟨w.heap.size + 1, 0, none⟩), .int .i64 8] W3 fun e W' => e = .returned (.int .i64 0) ∧ Two w.heap.size w W' [7, 8] [] false from put1 8 T1)).mono ?_
  rintro e W4 ⟨rfl, T2⟩
  clear T1
  gi_wp2_with fail
  refine ⟨trivial, ?_⟩
  refine (callsIn_wide.2 (show Calls Try.prog 21 #[.pointer (some ⟨w.heap.size + 1, 0, none⟩), .int .i64 9] W4 fun e W' => e = .returned (.int .i64 6) ∧ Two w.heap.size w W' [7, 8] [] false from put1 9 T2)).mono ?_
  rintro e W5 ⟨rfl, T3⟩
  clear T2
  gi_wp2_with fail
  refine ⟨trivial, ?_⟩
  refine (callsIn_wide.2 (show Calls Try.prog 16 #[.pointer (some ⟨w.heap.size + 1, 0, none⟩)] W5 fun e W' => e = .returned (.int .i64 0) ∧ Two w.heap.size w W' [7, 8] [] false from room1 T3)).mono ?_
  rintro e W6 ⟨rfl, T4⟩
  clear T3
  gi_wp2_with fail
  refine ⟨trivial, ?_⟩
  refine (callsIn_wide.2 (show Calls Try.prog 24 #[.pointer (some ⟨w.heap.size + 1, 0, none⟩), .pointer (some ⟨w.heap.size + 2 + 1, 0, none⟩)] W6 fun e W' => e = .returned (.int .i64 1) ∧ Two w.heap.size w W' [8] [7] false from pour12 T4)).mono ?_
  rintro e W7 ⟨rfl, T5⟩
  clear T4
  gi_wp2_with fail
  refine ⟨trivial, ?_⟩
  refine (callsIn_wide.2 (show Calls Try.prog 23 #[.pointer (some ⟨w.heap.size + 1, 0, none⟩)] W7 fun e W' => e = .returned (.tuple #[.int .i64 8, .bool true]) ∧ Two w.heap.size w W' [] [7] false from get1 T5)).mono ?_
  rintro e W8 ⟨rfl, T6⟩
  clear T5
  gi_wp2_with fail
  refine ⟨trivial, ?_⟩
  refine (callsIn_wide.2 (show Calls Try.prog 23 #[.pointer (some ⟨w.heap.size + 1, 0, none⟩)] W8 fun e W' => e = .returned (.tuple #[.int .i64 0, .bool false]) ∧ Two w.heap.size w W' [] [7] false from get1 T6)).mono ?_
  rintro e W9 ⟨rfl, T7⟩
  clear T6
  gi_wp2_with fail
  refine ⟨trivial, ?_⟩
  refine (callsIn_wide.2 (first12 T7)).mono ?_
  rintro e W10 ⟨rfl, T8⟩
  clear T7
  gi_wp2_with fail
  refine ⟨trivial, ?_⟩
  refine (callsIn_wide.2 (show Calls Try.prog 21 #[.pointer (some ⟨w.heap.size + 2 + 1, 0, none⟩), .int .i64 5] W10 fun e W' => e = .returned (.int .i64 0) ∧ Two w.heap.size w W' [] [5] false from put2 5 T8)).mono ?_
  rintro e W11 ⟨rfl, T9⟩
  clear T8
  gi_wp2_with fail
  refine ⟨trivial, ?_⟩
  refine (callsIn_wide.2 (show Calls Try.prog 22 #[.pointer (some ⟨w.heap.size + 2 + 1, 0, none⟩)] W11 fun e W' => e = .returned (.tuple #[]) ∧ Two w.heap.size w W' [] [5] true from shut2 T9)).mono ?_
  rintro e W12 ⟨rfl, T10⟩
  clear T9
  gi_wp2_with fail
  refine ⟨trivial, ?_⟩
  refine (callsIn_wide.2 (show Calls Try.prog 21 #[.pointer (some ⟨w.heap.size + 2 + 1, 0, none⟩), .int .i64 6] W12 fun e W' => e = .returned (.int .i64 60) ∧ Two w.heap.size w W' [] [5] true from put2 6 T10)).mono ?_
  rintro e W13 ⟨rfl, T11⟩
  clear T10
  gi_wp2_with fail
  refine ⟨trivial, ?_⟩
  refine (callsIn_wide.2 (show Calls Try.prog 18 #[.pointer (some ⟨w.heap.size + 2 + 1, 0, none⟩)] W13 fun e W' => e = .returned (.bool false) ∧ W13 = W' from over_any _ _ _ _ _ T11.two)).mono ?_
  rintro e W' ⟨rfl, rfl⟩
  gi_wp2_with fail
  refine ⟨trivial, ?_⟩
  refine (callsIn_wide.2 (all_any (w.heap.size + 2) _)).mono ?_
  rintro e W' ⟨rfl, rfl⟩
  gi_wp2_with fail
  obtain ⟨s, hs⟩ : ∃ s, s = w.heap.size := ⟨_, rfl⟩
  rw [← hs] at T11 ⊢
  have hlt := T11.lt
  obtain ⟨K, hK⟩ : ∃ K, K = W13.heap.size := ⟨_, rfl⟩
  have f0 : Boxed ((W13.alloc (.cells #[.int .i64 0] 3)).alloc (.cells #[.pointer (some ⟨s + 2 + 1, 0, none⟩)] 24)) K 3 (.int .i64 0) := by rw [hK]; exact (Boxed.new W13 _ _).alloc _
  have f1 : Boxed ((W13.alloc (.cells #[.int .i64 0] 3)).alloc (.cells #[.pointer (some ⟨s + 2 + 1, 0, none⟩)] 24)) (K + 1) 24 (.pointer (some ⟨s + 2 + 1, 0, none⟩)) := by
    have := Boxed.new (W13.alloc (.cells #[.int .i64 0] 3)) 24 (.pointer (some ⟨s + 2 + 1, 0, none⟩))
    rw [World.size_alloc] at this
    rw [hK]; exact this
  have hz : ((W13.alloc (.cells #[.int .i64 0] 3)).alloc (.cells #[.pointer (some ⟨s + 2 + 1, 0, none⟩)] 24)).heap.size = K + 2 := by rw [hK]; simp
  have T := T11.below (((Below.refl _ W13).alloc hlt (.cells #[.int .i64 0] 3)).alloc (by simp; omega) (.cells #[.pointer (some ⟨s + 2 + 1, 0, none⟩)] 24))
  rw [← hK]
  obtain ⟨W0, hW0⟩ : ∃ W0, W0 = (W13.alloc (.cells #[.int .i64 0] 3)).alloc (.cells #[.pointer (some ⟨s + 2 + 1, 0, none⟩)] 24) := ⟨_, rfl⟩
  rw [← hW0] at f0 f1 hz T ⊢
  have hbW : W0.heap.size = K + 2 := hz
  have hKs : s + 4 ≤ K := by omega
  clear hW0 hK hz T11
  have HS := Lib.hid hs
  have HZ := Lib.hid hbW
  clear hs hbW
  refine range_all_at 66 18 (n := m) (by omega) (s + 2) (K + 1) 1 [5] true rfl (by rw [HZ.out]; omega) (SumAt s K w) (SumAt' s K w) (fun _ _ _ => False) ?hI ?hIt (fun c k X Y row h _ _ => h)
    ⟨by omega, f0, f1, T⟩ (fun k W _ h => ⟨h.2.2.2.two, h.2.2.1.cell⟩) ?hget ?assign ?body ?done ?stop
  case hI => exact fun k X Y row h hg hr => h.grown hKs hg (fun r e => by rw [← HZ.out]; exact (hr r e).1)
  case hIt => exact fun k X Y row h hg hr => h.grown hKs hg (fun r e => by rw [← HZ.out]; exact (hr r e).1)
  case hget => exact fun k W W' hk h hq ht _ => h.got hKs hk hq ht
  case assign =>
    intro l x W K' hK
    gi_wp2
    exact hK
  case body =>
    rintro l k x W hk hx ⟨rfl, b0, b1, T⟩
    obtain rfl : 5 = x := by simpa using hx
    have hc := b0.cell
    have hf := b0.frozen
    have hset := SumAt.set hKs b0 b1 T
    have hkeep : KeepsFrom W0.heap.size W (W.setCell ⟨K, 0, none⟩ (.int .i64 5)) := (KeepsOthers.setCell W _ _).from _
    have HA := Lib.hid hset
    have HB := Lib.hid hkeep
    clear hset hkeep hx hk b0 b1 T
    gi_wp2
    exact ⟨HB.out, HA.out⟩
  case done =>
    rintro D W hD ⟨_, b0, b1, T⟩ hK
    have hc : W.cell? ⟨K, 0, none⟩ = some (.int .i64 5) := b0.cell
    have T' : Two s w W [] [] true := T
    have HB := Lib.hid b1.lt
    have HK := Lib.hid hK
    clear b0 b1 T hK
    gi_wp2_with fail
    refine ⟨trivial, ?_⟩
    refine (callsIn_wide.2 (over_any _ _ _ _ _ T'.two)).mono ?_
    rintro e W' ⟨rfl, rfl⟩
    gi_wp2_with fail
    refine ⟨trivial, ?_⟩
    refine (callsIn_wide.2 (len_any _ _ _ _ _ T'.two)).mono ?_
    rintro e W' ⟨rfl, rfl⟩
    gi_wp2_with fail
    refine ⟨trivial, ?_⟩
    refine (callsIn_wide.2 (room2 T')).mono ?_
    rintro e W' ⟨rfl, n1, rfl⟩
    gi_wp2_with fail
    refine ⟨trivial, ?_⟩
    refine (callsIn_wide.2 (pour_self _ _ _ _ _ (T'.one.drewN n1))).mono ?_
    rintro e W' ⟨rfl, n2, rfl⟩
    gi_wp2
    have hK' : ((W.drewN n1).drewN n2).heap[D]? = some (.deferred (some [])) := HK.out
    refine ⟨by simp, .inl ⟨_, _, rfl, run_takeDeferred hK', ?_⟩⟩
    refine ⟨_, results_tmp rfl _ _ _, rfl, ?_⟩
    have ho := (T'.drewN (n1 + n2)).old
    have hsz : s ≤ (W.drewN (n1 + n2)).heap.size := by have := T'.lt; show s ≤ W.heap.size; omega
    rw [HS.out] at ho hsz
    exact ho.trans ((Below.refl _ _).grown (grownBy_putObj' _ D _) hsz (fun r e => by cases e; have := HZ.out; have := HS.out; omega))
  case stop =>
    rintro D c k W hD hk h
    exact h.elim
/-- The statements' own example holds. -/
theorem alive_any (w : World) : Calls Try.prog 11 #[] w fun e W' => e = .returned (.bool true) ∧ Below w.heap.size w W' :=
  callsIn_wide.1 (alive_in 3 (Nat.le_refl _) w)
end Go.Proofs.Ytndhhpiklaffoaa.Mail
