/-
  Which options are on, plainly and in memory: what a side answers, by its states.
-/
import Derived.Test.YtimidoaafllnkaaBase
namespace Go.Proofs.Ytimidoaafllnkaa.Opt
open Go.RowKit Base
set_option linter.unusedVariables false

/-! ### Plainly: the next state, and what is said (1: on, 2: off) -/
def onS (may : Bool) (st : Nat) : Nat × Nat :=
  match st with
  | 0 => if may then (1, 1) else (0, 2)
  | 1 => (1, 0)
  | 2 => (0, 0)
  | 3 => (1, 0)
  | 4 => (1, 0)
  | 5 => (2, 2)
  | s => (s, 0)
def offS (st : Nat) : Nat × Nat :=
  match st with
  | 1 => (0, 2)
  | 4 => (3, 1)
  | _ => (0, 0)
def wantOnS (st : Nat) : Nat × Nat × Nat :=
  match st with
  | 0 => (3, 1, 0)
  | 2 => (4, 0, 0)
  | 5 => (3, 0, 0)
  | s => (s, 0, 5)
def wantOffS (st : Nat) : Nat × Nat × Nat :=
  match st with
  | 1 => (2, 2, 0)
  | 3 => (5, 0, 0)
  | 4 => (2, 0, 0)
  | s => (s, 0, 5)
def upd (S : Nat → Nat) (i v : Nat) : Nat → Nat := fun j => if j = i then v else S j

/-! ### In memory -/
def cellOf (M : Nat → Bool) (S : Nat → Nat) (j : Nat) : Value := if j / 256 % 2 = 0 then .bool (M j) else .int .i64 (S j)
def optC (M : Nat → Bool) (S : Nat → Nat) : Array Value := Array.ofFn fun j : Fin 1024 => cellOf M S j.val
def OptAt (w : World) (b : Nat) (M : Nat → Bool) (S : Nat → Nat) : Prop := w.heap[b]? = some (.cells (optC M S) 112 (0, 0))
theorem optC_at (M : Nat → Bool) (S : Nat → Nat) (j : Nat) : (optC M S)[j]? = if j < 1024 then some (cellOf M S j) else none := by
  by_cases h : j < 1024
  · rw [if_pos h]; simp [optC, h]
  · rw [if_neg h]; simp [optC]; omega
theorem optC_size (M : Nat → Bool) (S : Nat → Nat) : (optC M S).size = 1024 := by simp [optC]
theorem optC_set (M : Nat → Bool) (S : Nat → Nat) (i v : Nat) (h : i / 256 % 2 = 1) : (optC M S).setIfInBounds i (.int .i64 v) = optC M (upd S i v) := by
  apply Array.ext_getElem?
  intro j
  rw [Array.getElem?_setIfInBounds, optC_at, optC_at, optC_size]
  by_cases e : i = j
  · subst e
    rw [if_pos rfl]
    by_cases hi : i < 1024
    · rw [if_pos hi, if_pos hi]; simp [cellOf, h, upd]
    · rw [if_neg hi, if_neg hi]
  · rw [if_neg e]
    by_cases hj : j < 1024
    · rw [if_pos hj, if_pos hj]; simp [cellOf, upd, show ¬ j = i from fun h => e h.symm]
    · rw [if_neg hj, if_neg hj]
theorem optC_may (M : Nat → Bool) (S : Nat → Nat) (i : Nat) (v : Bool) (h : i / 256 % 2 = 0) : (optC M S).setIfInBounds i (.bool v) = optC (fun j => if j = i then v else M j) S := by
  apply Array.ext_getElem?
  intro j
  rw [Array.getElem?_setIfInBounds, optC_at, optC_at, optC_size]
  by_cases e : i = j
  · subst e
    rw [if_pos rfl]
    by_cases hi : i < 1024
    · rw [if_pos hi, if_pos hi]; simp [cellOf, h]
    · rw [if_neg hi, if_neg hi]
  · rw [if_neg e]
    by_cases hj : j < 1024
    · rw [if_pos hj, if_pos hj]; simp [cellOf, show ¬ j = i from fun h => e h.symm]
    · rw [if_neg hj, if_neg hj]
section
variable {w w' : World} {b : Nat} {M : Nat → Bool} {S : Nat → Nat}
theorem OptAt.lt (h : OptAt w b M S) : b < w.heap.size := lt_of_block h
theorem OptAt.keep {T : Nat → Prop} (h : OptAt w b M S) (t : Turn T w w') (hT : ¬ T b) : OptAt w' b M S := (t.block b h.lt hT).trans h
theorem OptAt.below (h : OptAt w b M S) (t : Below w.heap.size w w') : OptAt w' b M S := (t.block b h.lt).trans h
theorem OptAt.drewN (h : OptAt w b M S) (n : Nat) : OptAt (w.drewN n) b M S := h
theorem OptAt.may (h : OptAt w b M S) (j : Nat) (hj : j < 1024) (hm : j / 256 % 2 = 0) : w.cell? ⟨b, j, none⟩ = some (.bool (M j)) := by
  have := optC_at M S j
  rw [if_pos hj] at this
  simp [World.cell?, show w.heap[b]? = _ from h, this, cellOf, hm]
theorem OptAt.st (h : OptAt w b M S) (j : Nat) (hj : j < 1024) (hm : j / 256 % 2 = 1) : w.cell? ⟨b, j, none⟩ = some (.int .i64 (S j)) := by
  have := optC_at M S j
  rw [if_pos hj] at this
  simp [World.cell?, show w.heap[b]? = _ from h, this, cellOf, hm]
theorem OptAt.frozen (h : OptAt w b M S) (o : Nat) : w.frozen? ⟨b, o, none⟩ = false := by simp [World.frozen?, show w.heap[b]? = _ from h]
theorem OptAt.set (h : OptAt w b M S) (i v : Nat) (hm : i / 256 % 2 = 1) : OptAt (w.setCell ⟨b, i, none⟩ (.int .i64 v)) b M (upd S i v) := by
  have := heap_set h i (.int .i64 v)
  rw [optC_set M S i v hm] at this
  exact this
theorem upd_same (S : Nat → Nat) (i v : Nat) (h : S i = v) : upd S i v = S := by
  funext j; unfold upd; split
  · next e => rw [e, h]
  · rfl
end
/-- What a call that turns one state answers. -/
def Said (b : Nat) (M : Nat → Bool) (S : Nat → Nat) (i s' r : Nat) (w : World) (e : Ending) (w' : World) : Prop := e = .returned (.int .i64 r) ∧ OptAt w' b M (upd S i s') ∧ Turn (At b) w w'
theorem Said.put {b : Nat} {M : Nat → Bool} {S : Nat → Nat} {i s' r : Nat} {w : World} (h : OptAt w b M S) (hm : i / 256 % 2 = 1) : Said b M S i s' r w (.returned (.int .i64 r)) (w.setCell ⟨b, i, none⟩ (.int .i64 s')) :=
  ⟨rfl, h.set i s' hm, turn_set w b i _⟩
theorem Said.stay {b : Nat} {M : Nat → Bool} {S : Nat → Nat} {i s' r : Nat} {w : World} (h : OptAt w b M S) (hs : S i = s') : Said b M S i s' r w (.returned (.int .i64 r)) w :=
  ⟨rfl, by rw [upd_same S i s' hs]; exact h, Turn.refl _ w⟩
theorem heardOn_any {w : World} {b : Nat} {M : Nat → Bool} {S : Nat → Nat} (off o : Nat) (hoff : off = 0 ∨ off = 512) (ho : o < 256) (h : OptAt w b M S) (hs : S (off + 256 + o) ≤ 5) :
    Calls Try.prog 100 #[.pointer (some ⟨b, off, none⟩), .int .u8 o] w (Said b M S (off + 256 + o) (onS (M (off + o)) (S (off + 256 + o))).1 (onS (M (off + o)) (S (off + 256 + o))).2 w) := by
  have hc := h.st (off + 256 + o) (by omega) (by omega)
  have hc0 := h.may (off + o) (by omega) (by omega)
  have hf := h.frozen (off + 256 + o)
  have hm : (off + 256 + o) / 256 % 2 = 1 := by omega
  obtain ⟨s, hst⟩ : ∃ s, s = S (off + 256 + o) := ⟨_, rfl⟩
  obtain ⟨m, hmay⟩ : ∃ m, m = M (off + o) := ⟨_, rfl⟩
  rw [← hst] at hc hs ⊢
  rw [← hmay] at hc0 ⊢
  have H := Lib.hid h
  have HS := Lib.hid hst
  have HM := Lib.hid hm
  clear hst h hmay hm
  have hcase : s = 0 ∨ s = 1 ∨ s = 2 ∨ s = 3 ∨ s = 4 ∨ s = 5 := by omega
  rcases hcase with rfl | rfl | rfl | rfl | rfl | rfl
  · cases m
    · go_enter Try.func100, Try.ntmps100
      go_wp2
      go_ret
      exact Said.stay H.out HS.out.symm
    · go_enter Try.func100, Try.ntmps100
      go_wp2
      go_ret
      exact Said.put H.out HM.out
  all_goals
    go_enter Try.func100, Try.ntmps100
    go_wp2
    go_ret
    first | exact Said.put H.out HM.out | exact Said.stay H.out HS.out.symm

theorem heardOff_any {w : World} {b : Nat} {M : Nat → Bool} {S : Nat → Nat} (off o : Nat) (hoff : off = 0 ∨ off = 512) (ho : o < 256) (h : OptAt w b M S) (hs : S (off + 256 + o) ≤ 5) :
    Calls Try.prog 101 #[.pointer (some ⟨b, off, none⟩), .int .u8 o] w (Said b M S (off + 256 + o) (offS (S (off + 256 + o))).1 (offS (S (off + 256 + o))).2 w) := by
  have hc := h.st (off + 256 + o) (by omega) (by omega)
  have hf := h.frozen (off + 256 + o)
  have hm : (off + 256 + o) / 256 % 2 = 1 := by omega
  obtain ⟨s, hst⟩ : ∃ s, s = S (off + 256 + o) := ⟨_, rfl⟩
  rw [← hst] at hc hs ⊢
  have H := Lib.hid h
  have HS := Lib.hid hst
  have HM := Lib.hid hm
  clear hst h hm
  have hcase : s = 0 ∨ s = 1 ∨ s = 2 ∨ s = 3 ∨ s = 4 ∨ s = 5 := by omega
  rcases hcase with rfl | rfl | rfl | rfl | rfl | rfl
  all_goals
    go_enter Try.func101, Try.ntmps101
    go_wp2
    go_ret
    first | exact Said.put H.out HM.out | exact Said.stay H.out HS.out.symm
/-- .. of two results. -/
def Said2 (b : Nat) (M : Nat → Bool) (S : Nat → Nat) (i s' r r' : Nat) (w : World) (e : Ending) (w' : World) : Prop := e = .returned (.tuple #[.int .i64 r, .int .i64 r']) ∧ OptAt w' b M (upd S i s') ∧ Turn (At b) w w'
theorem Said2.put {b : Nat} {M : Nat → Bool} {S : Nat → Nat} {i s' r r' : Nat} {w : World} (h : OptAt w b M S) (hm : i / 256 % 2 = 1) : Said2 b M S i s' r r' w (.returned (.tuple #[.int .i64 r, .int .i64 r'])) (w.setCell ⟨b, i, none⟩ (.int .i64 s')) :=
  ⟨rfl, h.set i s' hm, turn_set w b i _⟩
theorem Said2.stay {b : Nat} {M : Nat → Bool} {S : Nat → Nat} {i s' r r' : Nat} {w : World} (h : OptAt w b M S) (hs : S i = s') : Said2 b M S i s' r r' w (.returned (.tuple #[.int .i64 r, .int .i64 r'])) w :=
  ⟨rfl, by rw [upd_same S i s' hs]; exact h, Turn.refl _ w⟩
theorem wantOn_any {w : World} {b : Nat} {M : Nat → Bool} {S : Nat → Nat} (off o : Nat) (hoff : off = 0 ∨ off = 512) (ho : o < 256) (h : OptAt w b M S) (hs : S (off + 256 + o) ≤ 5) :
    Calls Try.prog 103 #[.pointer (some ⟨b, off, none⟩), .int .u8 o] w (Said2 b M S (off + 256 + o) (wantOnS (S (off + 256 + o))).1 (wantOnS (S (off + 256 + o))).2.1 (wantOnS (S (off + 256 + o))).2.2 w) := by
  have hc := h.st (off + 256 + o) (by omega) (by omega)
  have hf := h.frozen (off + 256 + o)
  have hm : (off + 256 + o) / 256 % 2 = 1 := by omega
  obtain ⟨s, hst⟩ : ∃ s, s = S (off + 256 + o) := ⟨_, rfl⟩
  rw [← hst] at hc hs ⊢
  have H := Lib.hid h
  have HS := Lib.hid hst
  have HM := Lib.hid hm
  clear hst h hm
  have hcase : s = 0 ∨ s = 1 ∨ s = 2 ∨ s = 3 ∨ s = 4 ∨ s = 5 := by omega
  rcases hcase with rfl | rfl | rfl | rfl | rfl | rfl
  all_goals
    go_enter Try.func103, Try.ntmps103
    go_wp2
    go_ret2
    first | exact Said2.put H.out HM.out | exact Said2.stay H.out HS.out.symm
theorem wantOff_any {w : World} {b : Nat} {M : Nat → Bool} {S : Nat → Nat} (off o : Nat) (hoff : off = 0 ∨ off = 512) (ho : o < 256) (h : OptAt w b M S) (hs : S (off + 256 + o) ≤ 5) :
    Calls Try.prog 104 #[.pointer (some ⟨b, off, none⟩), .int .u8 o] w (Said2 b M S (off + 256 + o) (wantOffS (S (off + 256 + o))).1 (wantOffS (S (off + 256 + o))).2.1 (wantOffS (S (off + 256 + o))).2.2 w) := by
  have hc := h.st (off + 256 + o) (by omega) (by omega)
  have hf := h.frozen (off + 256 + o)
  have hm : (off + 256 + o) / 256 % 2 = 1 := by omega
  obtain ⟨s, hst⟩ : ∃ s, s = S (off + 256 + o) := ⟨_, rfl⟩
  rw [← hst] at hc hs ⊢
  have H := Lib.hid h
  have HS := Lib.hid hst
  have HM := Lib.hid hm
  clear hst h hm
  have hcase : s = 0 ∨ s = 1 ∨ s = 2 ∨ s = 3 ∨ s = 4 ∨ s = 5 := by omega
  rcases hcase with rfl | rfl | rfl | rfl | rfl | rfl
  all_goals
    go_enter Try.func104, Try.ntmps104
    go_wp2
    go_ret2
    first | exact Said2.put H.out HM.out | exact Said2.stay H.out HS.out.symm

/-! ### What is said, as bytes -/
def sayL (ours : Bool) (word o : Nat) : List Int := if word = 0 then [] else [255, ((if ours then 250 else 252) + word : Nat), (o : Int)]
/-- A call that answers a row of bytes, as new memory. -/
def Tells (L : List Int) (w : World) (e : Ending) (w' : World) : Prop := ∃ v, e = .returned v ∧ RowIn (fun k => w.heap.size ≤ k) .u8 w' v L ∧ Below w.heap.size w w'
theorem three_at (w : World) (a b c : Int) (t : TypeId) : RowIn (fun k => w.heap.size ≤ k) .u8 (w.alloc (.cells #[.int .u8 a, .int .u8 b, .int .u8 c] t)) (.slice (some ⟨w.heap.size, 0, none⟩) 3 3) [a, b, c] := by
  refine ⟨_, 3, rfl, fun _ => ⟨_, 0, rfl, Nat.le_refl _, by simp, fun i hi => ?_⟩⟩
  have : i = 0 ∨ i = 1 ∨ i = 2 := by simp at hi; omega
  rcases this with rfl | rfl | rfl <;> simp [go_sem]
theorem say_any (c o : Int) (w : World) : Calls Try.prog 22 #[.int .u8 c, .int .u8 o] w (Tells [255, c, o] w) := by
  go_enter Try.func22, Try.ntmps22
  go_wp2
  go_ret
  exact ⟨_, rfl, three_at w 255 c o _, below_alloc w _⟩
theorem osay_any (ours : Bool) (word o : Nat) (hw : word ≤ 2) (w : World) : Calls Try.prog 99 #[.bool ours, .int .i64 word, .int .u8 o] w (Tells (sayL ours word o) w) := by
  have hcase : word = 0 ∨ word = 1 ∨ word = 2 := by omega
  rcases hcase with rfl | rfl | rfl <;> cases ours
  all_goals
    go_enter Try.func99, Try.ntmps99
    go_wp2_with (go_at_call 22; refine (say_any _ _ _).mono ?_; rintro e w' ⟨v, rfl, hr, hb⟩)
    go_ret
    first | exact ⟨_, rfl, RowIn.nil _ _ _, Below.refl _ _⟩ | exact ⟨_, rfl, hr, hb⟩
end Go.Proofs.Ytimidoaafllnkaa.Opt
