/-
  Queues, plainly and in memory; the contracts of mail's New, Put, Get, Len, Room, Over and Shut.
-/
import Derived.Test.YtndhhpiklaffoaaRows
import Derived.WalkKit
import Derived.WalkSpells
import Derived.WalkLawsBesides
import Derived.Deep.QuietTactic
import Derived.BigQuiet
import Derived.Outline
import Derived.Lib.Hide
import Derived.Laws.CopyOwn
import Derived.Deep.DeepCutAuto
import Derived.Conc.LoneCalls
import Derived.Conc.LoneSelect
import Derived.Conc.LoneSelectN
import Derived.OneCell
import Derived.KernelRfl
import Derived.Laws.Rows
namespace Go.Proofs.Ytndhhpiklaffoaa.Mail
open Go.RowKit Go.Conc
set_option linter.unusedVariables false

/-! ### Plainly -/
def ints (xs : List Int) : Array Value := (xs.map (Value.int .i64)).toArray
theorem ints_size (xs : List Int) : (ints xs).size = xs.length := by simp [ints]
theorem ints_push (xs : List Int) (x : Int) : (ints xs).push (.int .i64 x) = ints (xs ++ [x]) := by simp [ints]
theorem ints_tail (x : Int) (xs : List Int) : (ints (x :: xs)).extract 1 (ints (x :: xs)).size = ints xs := by
  simp [ints, List.take_of_length_le]
theorem ints_head (x : Int) (xs : List Int) : (ints (x :: xs)).getD 0 undef = .int .i64 x := by simp [ints]
def roomOf (n : Int) : Nat := (min (max n 0) 1024).toNat
def putE (room : Nat) (xs : List Int) (shut : Bool) : Int := if shut then 60 else if xs.length < room then 0 else 6
def putL (room : Nat) (xs : List Int) (shut : Bool) (x : Int) : List Int := if shut then xs else if xs.length < room then xs ++ [x] else xs
def roomL (room : Nat) (xs : List Int) (shut : Bool) : Int := if shut then 0 else (room : Int) - xs.length

/-! ### In memory -/
/-- The queue of the channel in block c: itself in block c + 1. -/
structure QAt (w : World) (c room : Nat) (xs : List Int) (shut : Bool) : Prop where
  chan : ∃ s r, w.heap[c]? = some (.chan room (ints xs) shut s r false)
  box : w.heap[c + 1]? = some (.cells #[.chan (some c), .bool shut] 91 (0, 0))
  fits : xs.length ≤ room
  most : room ≤ 1024

/-- All blocks but those of S are as they were. -/
structure Turn (S : Nat → Prop) (w w' : World) : Prop where
  os : w'.os = w.os
  tape : w'.tape = w.tape
  output : w'.output = w.output
  size : w.heap.size ≤ w'.heap.size
  block : ∀ k, k < w.heap.size → ¬ S k → w'.heap[k]? = w.heap[k]?
def Of (c : Nat) (k : Nat) : Prop := k = c ∨ k = c + 1
def Or2 (S T : Nat → Prop) (k : Nat) : Prop := S k ∨ T k
theorem Turn.refl (S : Nat → Prop) (w : World) : Turn S w w := ⟨rfl, rfl, rfl, Nat.le_refl _, fun _ _ _ => rfl⟩
theorem Turn.trans {S : Nat → Prop} {a b c : World} (h : Turn S a b) (k : Turn S b c) : Turn S a c :=
  ⟨k.os.trans h.os, k.tape.trans h.tape, k.output.trans h.output, Nat.le_trans h.size k.size, fun i hi hS => (k.block i (Nat.lt_of_lt_of_le hi h.size) hS).trans (h.block i hi hS)⟩
theorem Turn.mono {S S' : Nat → Prop} {a b : World} (h : Turn S a b) (hS : ∀ k, S k → S' k) : Turn S' a b :=
  ⟨h.os, h.tape, h.output, h.size, fun k hk hn => h.block k hk (fun h' => hn (hS k h'))⟩
theorem Turn.of_below {S : Nat → Prop} {a b : World} (h : Below a.heap.size a b) : Turn S a b := ⟨h.os, h.tape, h.output, h.size, fun k hk _ => h.block k hk⟩
/-- What was turned lies at or beyond B. -/
theorem Turn.below {S : Nat → Prop} {a b : World} {B : Nat} (h : Turn S a b) (hB : B ≤ a.heap.size) (hS : ∀ k, S k → B ≤ k) : Below B a b :=
  ⟨h.os, h.tape, h.output, h.size, fun k hk => h.block k (Nat.lt_of_lt_of_le hk hB) (fun h' => absurd (hS k h') (by omega))⟩
theorem QAt.lt {w : World} {c room : Nat} {xs : List Int} {shut : Bool} (h : QAt w c room xs shut) : c + 1 < w.heap.size := lt_of_block h.box
theorem QAt.keep {w w' : World} {S : Nat → Prop} {c room : Nat} {xs : List Int} {shut : Bool} (h : QAt w c room xs shut) (t : Turn S w w') (h1 : ¬ S c) (h2 : ¬ S (c + 1)) : QAt w' c room xs shut := by
  have := h.lt
  obtain ⟨s, r, hc⟩ := h.chan
  exact ⟨⟨s, r, (t.block c (by omega) h1).trans hc⟩, (t.block (c + 1) (by omega) h2).trans h.box, h.fits, h.most⟩
theorem QAt.below {w w' : World} {B c room : Nat} {xs : List Int} {shut : Bool} (h : QAt w c room xs shut) (t : Below B w w') (hB : c + 1 < B) : QAt w' c room xs shut := by
  obtain ⟨s, r, hc⟩ := h.chan
  exact ⟨⟨s, r, (t.block c (by omega)).trans hc⟩, (t.block (c + 1) (by omega)).trans h.box, h.fits, h.most⟩
theorem QAt.cell0 {w : World} {c room : Nat} {xs : List Int} {shut : Bool} (h : QAt w c room xs shut) : w.cell? ⟨c + 1, 0, none⟩ = some (.chan (some c)) := by simp [World.cell?, h.box]
theorem QAt.cell1 {w : World} {c room : Nat} {xs : List Int} {shut : Bool} (h : QAt w c room xs shut) : w.cell? ⟨c + 1, 1, none⟩ = some (.bool shut) := by simp [World.cell?, h.box]

theorem turn_setChan (w : World) (c cap : Nat) (buf : Array Value) (cl : Bool) (s r : Nat) : Turn (Of c) w (w.setChan c cap buf cl s r false) :=
  ⟨rfl, rfl, rfl, by simp [World.setChan], fun k hk hS => by simp only [World.setChan]; rw [Array.getElem?_setIfInBounds_ne (fun e => hS (.inl e.symm))]⟩
theorem QAt.turned {w : World} {c room : Nat} {xs ys : List Int} {shut : Bool} (h : QAt w c room xs shut) (s r : Nat) (hl : ys.length ≤ room) : QAt (w.setChan c room (ints ys) shut s r false) c room ys shut := by
  have := h.lt
  exact ⟨⟨s, r, heap_setChan _ _ _ _ _ _ _ _ (by omega)⟩, by simp only [World.setChan]; rw [Array.getElem?_setIfInBounds_ne (by omega)]; exact h.box, hl, h.most⟩

/-! ### New -/
theorem info_chan : (Try.prog.info? 3).map (·.bytes) = some 8 := by kernel_rfl
theorem run_mk (w : World) (n : Nat) (h : n ≤ 1024) : (Instr.makeChan 89 (.int .i64 n)).run Try.prog w = .ok (.chan (some w.heap.size)) (w.alloc (.chan n #[] false 0 0 false)) := by
  obtain ⟨i, hi, hb⟩ := Option.map_eq_some_iff.1 info_chan
  exact run_makeChan (P := Try.prog) (w := w) Try.underlying89 hi .i64 n (by omega) (by rw [hb]; omega)
theorem new_at (w : World) (n : Nat) (h : n ≤ 1024) : QAt ((w.alloc (.chan n #[] false 0 0 false)).alloc (.cells #[.chan (some w.heap.size), .bool false] 91 (0, 0))) w.heap.size n [] false := by
  have a1 := heap_alloc_new w (.chan n #[] false 0 0 false)
  have a2 := heap_alloc_new (w.alloc (.chan n #[] false 0 0 false)) (.cells #[.chan (some w.heap.size), .bool false] 91 (0, 0))
  refine ⟨⟨0, 0, ?_⟩, by simpa using a2, by simp, h⟩
  rw [Below.heap_alloc _ _ _ (by simp)]
  exact a1
theorem new_room (n : Int) (k : Nat) (w : World) (h : n ≤ 0 ∧ k = 0 ∨ 1024 ≤ n ∧ k = 1024 ∨ n = k ∧ k ≤ 1024) :
    Calls Try.prog 12 #[.int .i64 n] w fun e w' => e = .returned (.pointer (some ⟨w.heap.size + 1, 0, none⟩)) ∧ w' = (w.alloc (.chan k #[] false 0 0 false)).alloc (.cells #[.chan (some w.heap.size), .bool false] 91 (0, 0)) := by
  rcases h with ⟨h, rfl⟩ | ⟨h, rfl⟩ | ⟨rfl, h⟩
  · have hm := fun w => run_mk w 0 (by omega)
    simp only [Int.ofNat_zero] at hm
    by_cases h0 : n = 0
    · subst h0
      go_enter Try.func12, Try.ntmps12
      go_wp2
      go_ret
      exact ⟨rfl, rfl⟩
    · go_enter Try.func12, Try.ntmps12
      go_wp2
      go_ret
      exact ⟨rfl, rfl⟩
  · have hm : ∀ w : World, (Instr.makeChan 89 (.int .i64 1024)).run Try.prog w = .ok (.chan (some w.heap.size)) (w.alloc (.chan 1024 #[] false 0 0 false)) := fun w => run_mk w 1024 (by omega)
    by_cases h0 : n = 1024
    · subst h0
      go_enter Try.func12, Try.ntmps12
      go_wp2
      go_ret
      exact ⟨rfl, rfl⟩
    · go_enter Try.func12, Try.ntmps12
      go_wp2
      go_ret
      exact ⟨rfl, rfl⟩
  · have hm := fun w => run_mk w k h
    go_enter Try.func12, Try.ntmps12
    go_wp2
    go_ret
    exact ⟨rfl, rfl⟩
theorem new_any (n : Int) (w : World) :
    Calls Try.prog 12 #[.int .i64 n] w fun e w' => e = .returned (.pointer (some ⟨w.heap.size + 1, 0, none⟩)) ∧ QAt w' w.heap.size (roomOf n) [] false ∧ Below w.heap.size w w' ∧ w'.heap.size = w.heap.size + 2 := by
  refine (new_room n (roomOf n) w (by unfold roomOf; omega)).mono ?_
  rintro e w' ⟨rfl, rfl⟩
  exact ⟨rfl, new_at w _ (by unfold roomOf; omega), ((Below.refl _ w).alloc (Nat.le_refl _) _).alloc (by simp) _, by simp⟩

/-! ### Put -/
def undefs (k : Nat) : List Value := List.replicate k undef
set_option maxRecDepth 100000 in
theorem put_shut (c room : Nat) (xs : List Int) (x : Int) (w : World) (h : QAt w c room xs true) :
    Calls Try.prog 21 #[.pointer (some ⟨c + 1, 0, none⟩), .int .i64 x] w fun e w' => e = .returned (.int .i64 60) ∧ w' = w := by
  have h1 := h.cell1
  go_enter Try.func21, Try.ntmps21
  go_wp2
  go_ret
  exact ⟨rfl, rfl⟩
set_option maxRecDepth 100000 in
theorem put_room (c room s r : Nat) (xs : List Int) (x : Int) (w : World) (h : QAt w c room xs false) (hc : w.heap[c]? = some (.chan room (ints xs) false s r false)) (hl : xs.length < room) :
    Calls Try.prog 21 #[.pointer (some ⟨c + 1, 0, none⟩), .int .i64 x] w fun e w' => e = .returned (.int .i64 0) ∧ w' = w.setChan c room (ints (xs ++ [x])) false (s + 1) r false := by
  have h0 := h.cell0
  have h1 := h.cell1
  refine calls_of_loneTo fun cs => ?_
  have e : Frame.enter Try.prog 21 #[.pointer (some ⟨c + 1, 0, none⟩), .int .i64 x] .normal = (base 21).at ⟨#[.pointer (some ⟨c + 1, 0, none⟩), .int .i64 x, undef, undef, undef, undef, undef, undef, undef, undef, undef, undef, undef, undef, undef, undef, undef], []⟩ [.code (Try.f21.body.getD .skip)] := by
    simp [Frame.enter, Frame.at, Try.func21, base, Try.f21]
  rw [e]
  refine LoneTo.goes (n := 60) ?_
  simp only [Try.f21, Option.getD_some]
  s_c stepG_seq
  s_reg
  s_op
  s_c stepG_region_end
  s_c stepG_seq
  s_c stepG_seq
  s_reg
  s_op
  s_op
  s_op
  s_op
  s_c stepG_region_end
  s_cond false
  s_c stepG_skip
  s_c stepG_seq
  s_c stepG_seq
  s_reg
  s_op
  s_op
  s_op
  s_op
  s_c stepG_region_end
  s_reg
  s_op
  s_c stepG_region_end
  s_c stepG_seq
  s_reg
  s_stop
  refine LoneTo.step (step_lone_select_send_room (c := c) (v := .int .i64 x) (cap := room) (buf := ints xs) (s := s) (r := r) (tm := false) (z' := .int .i64 0) (stepG_comm (cases := #[scase c (.int .i64 x) (.int .i64 0)]) (blocking := false) (shape := .select) (w' := w) rfl rfl (by decide) (by simp [go_sem, execOp, scase, Act.eval])) hc (by rw [ints_size]; exact hl)) ?_
  rw [Frame.finish_at, ints_push]
  walk_nrm
  refine LoneTo.goes (n := 30) ?_
  s_op
  s_op
  s_c stepG_region_end
  s_c stepG_block
  s_cond true
  s_c stepG_seq
  s_reg
  s_op
  s_c stepG_region_end
  s_c stepG_ret'
  s_stop
  exact LoneTo.done ⟨.returned (.int .i64 0), _, rfl, ⟨rfl, rfl⟩, rfl, rfl, rfl, rfl, _, Try.func21, by simp [results, Try.f21, Frame.at]⟩
set_option maxRecDepth 100000 in
theorem put_full (c room s r : Nat) (xs : List Int) (x : Int) (w : World) (h : QAt w c room xs false) (hc : w.heap[c]? = some (.chan room (ints xs) false s r false)) (hl : room ≤ xs.length) :
    Calls Try.prog 21 #[.pointer (some ⟨c + 1, 0, none⟩), .int .i64 x] w fun e w' => e = .returned (.int .i64 6) ∧ w' = w := by
  have h0 := h.cell0
  have h1 := h.cell1
  refine calls_of_loneTo fun cs => ?_
  have e : Frame.enter Try.prog 21 #[.pointer (some ⟨c + 1, 0, none⟩), .int .i64 x] .normal = (base 21).at ⟨#[.pointer (some ⟨c + 1, 0, none⟩), .int .i64 x, undef, undef, undef, undef, undef, undef, undef, undef, undef, undef, undef, undef, undef, undef, undef], []⟩ [.code (Try.f21.body.getD .skip)] := by
    simp [Frame.enter, Frame.at, Try.func21, base, Try.f21]
  rw [e]
  refine LoneTo.goes (n := 60) ?_
  simp only [Try.f21, Option.getD_some]
  s_c stepG_seq
  s_reg
  s_op
  s_c stepG_region_end
  s_c stepG_seq
  s_c stepG_seq
  s_reg
  s_op
  s_op
  s_op
  s_op
  s_c stepG_region_end
  s_cond false
  s_c stepG_skip
  s_c stepG_seq
  s_c stepG_seq
  s_reg
  s_op
  s_op
  s_op
  s_op
  s_c stepG_region_end
  s_reg
  s_op
  s_c stepG_region_end
  s_c stepG_seq
  s_reg
  s_stop
  refine LoneTo.step (step_lone_select_send_full (c := c) (v := .int .i64 x) (cap := room) (buf := ints xs) (s := s) (r := r) (tm := false) (z' := .int .i64 0) (stepG_comm (cases := #[scase c (.int .i64 x) (.int .i64 0)]) (blocking := false) (shape := .select) (w' := w) rfl rfl (by decide) (by simp [go_sem, execOp, scase, Act.eval])) hc (by rw [ints_size]; exact hl)) ?_
  rw [Frame.finish_at]
  walk_nrm
  refine LoneTo.goes (n := 30) ?_
  s_op
  s_op
  s_c stepG_region_end
  s_c stepG_block
  s_cond false
  s_c stepG_seq
  s_reg
  s_op
  s_c stepG_region_end
  s_c stepG_ret'
  s_stop
  exact LoneTo.done ⟨.returned (.int .i64 6), _, rfl, ⟨rfl, rfl⟩, rfl, rfl, rfl, rfl, _, Try.func21, by simp [results, Try.f21, Frame.at]⟩
theorem put_any (c room : Nat) (xs : List Int) (shut : Bool) (x : Int) (w : World) (h : QAt w c room xs shut) :
    Calls Try.prog 21 #[.pointer (some ⟨c + 1, 0, none⟩), .int .i64 x] w fun e w' => e = .returned (.int .i64 (putE room xs shut)) ∧ QAt w' c room (putL room xs shut x) shut ∧ Turn (Of c) w w' ∧ w'.heap.size = w.heap.size := by
  obtain ⟨s, r, hc⟩ := h.chan
  cases shut with
  | true => exact (put_shut c room xs x w h).mono fun e w' ⟨he, hw⟩ => ⟨he, by rw [hw]; exact h, by rw [hw]; exact Turn.refl _ _, by rw [hw]⟩
  | false =>
    by_cases hl : xs.length < room
    · refine (put_room c room s r xs x w h hc hl).mono fun e w' ⟨he, hw⟩ => ?_
      subst hw
      refine ⟨by rw [he]; simp [putE, hl], ?_, turn_setChan _ _ _ _ _ _ _, by simp [World.setChan]⟩
      have := h.turned (ys := xs ++ [x]) (s + 1) r (by simp; omega)
      simpa [putL, hl] using this
    · exact (put_full c room s r xs x w h hc (by omega)).mono fun e w' ⟨he, hw⟩ => ⟨by rw [he]; simp [putE, hl], by rw [hw]; simpa [putL, hl] using h, by rw [hw]; exact Turn.refl _ _, by rw [hw]⟩

/-! ### Get -/
set_option maxRecDepth 100000 in
theorem get_some (c room s r : Nat) (x : Int) (xs : List Int) (shut : Bool) (w : World) (h : QAt w c room (x :: xs) shut) (hc : w.heap[c]? = some (.chan room (ints (x :: xs)) shut s r false)) :
    Calls Try.prog 23 #[.pointer (some ⟨c + 1, 0, none⟩)] w fun e w' => e = .returned (.tuple #[.int .i64 x, .bool true]) ∧ w' = w.setChan c room (ints xs) shut s (r + 1) false := by
  have h0 := h.cell0
  refine calls_of_loneTo fun cs => ?_
  have e : Frame.enter Try.prog 23 #[.pointer (some ⟨c + 1, 0, none⟩)] .normal = (base 23).at ⟨#[.pointer (some ⟨c + 1, 0, none⟩), undef, undef, undef, undef, undef, undef, undef, undef, undef, undef, undef, undef, undef, undef, undef, undef, undef, undef], []⟩ [.code (Try.f23.body.getD .skip)] := by
    simp [Frame.enter, Frame.at, Try.func23, base, Try.f23]
  rw [e]
  refine LoneTo.goes (n := 60) ?_
  simp only [Try.f23, Option.getD_some]
  s_c stepG_seq
  s_reg
  s_op
  s_op
  s_c stepG_region_end
  s_c stepG_seq
  s_reg
  s_op
  s_op
  s_op
  s_op
  s_c stepG_region_end
  s_c stepG_seq
  s_reg
  s_stop
  refine LoneTo.step (step_lone_select_recv_buf (c := c) (cap := room) (buf := ints (x :: xs)) (closed := shut) (s := s) (r := r) (tm := false) (z := .int .i64 0) (stepG_comm (cases := #[rcase c (.int .i64 0)]) (blocking := false) (shape := .select) (w' := w) rfl rfl (by decide) (by simp [go_sem, execOp, rcase, Act.eval])) hc (by rw [ints_size]; simp)) ?_
  rw [Frame.finish_at, ints_head, ints_tail]
  walk_nrm
  refine LoneTo.goes (n := 30) ?_
  s_op
  s_op
  s_c stepG_region_end
  s_c stepG_block
  s_cond true
  s_c stepG_seq
  s_reg
  s_op
  s_op
  s_op
  s_op
  s_c stepG_region_end
  s_c stepG_seq
  s_reg
  s_op
  s_op
  s_op
  s_op
  s_c stepG_region_end
  s_c stepG_ret'
  s_stop
  exact LoneTo.done ⟨.returned (.tuple #[.int .i64 x, .bool true]), _, rfl, ⟨rfl, rfl⟩, rfl, rfl, rfl, rfl, _, Try.func23, by simp [results, Try.f23, Frame.at]⟩
set_option maxRecDepth 100000 in
theorem get_shut (c room s r : Nat) (w : World) (h : QAt w c room [] true) (hc : w.heap[c]? = some (.chan room (ints []) true s r false)) :
    Calls Try.prog 23 #[.pointer (some ⟨c + 1, 0, none⟩)] w fun e w' => e = .returned (.tuple #[.int .i64 0, .bool false]) ∧ w' = w := by
  have h0 := h.cell0
  refine calls_of_loneTo fun cs => ?_
  have e : Frame.enter Try.prog 23 #[.pointer (some ⟨c + 1, 0, none⟩)] .normal = (base 23).at ⟨#[.pointer (some ⟨c + 1, 0, none⟩), undef, undef, undef, undef, undef, undef, undef, undef, undef, undef, undef, undef, undef, undef, undef, undef, undef, undef], []⟩ [.code (Try.f23.body.getD .skip)] := by
    simp [Frame.enter, Frame.at, Try.func23, base, Try.f23]
  rw [e]
  refine LoneTo.goes (n := 60) ?_
  simp only [Try.f23, Option.getD_some]
  s_c stepG_seq
  s_reg
  s_op
  s_op
  s_c stepG_region_end
  s_c stepG_seq
  s_reg
  s_op
  s_op
  s_op
  s_op
  s_c stepG_region_end
  s_c stepG_seq
  s_reg
  s_stop
  refine LoneTo.step (step_lone_select_recv_shut (c := c) (cap := room) (s := s) (r := r) (tm := false) (z := .int .i64 0) (stepG_comm (cases := #[rcase c (.int .i64 0)]) (blocking := false) (shape := .select) (w' := w) rfl rfl (by decide) (by simp [go_sem, execOp, rcase, Act.eval])) hc) ?_
  rw [Frame.finish_at]
  walk_nrm
  refine LoneTo.goes (n := 30) ?_
  s_op
  s_op
  s_c stepG_region_end
  s_c stepG_block
  s_cond true
  s_c stepG_seq
  s_reg
  s_op
  s_op
  s_op
  s_op
  s_c stepG_region_end
  s_c stepG_seq
  s_reg
  s_op
  s_op
  s_op
  s_op
  s_c stepG_region_end
  s_c stepG_ret'
  s_stop
  exact LoneTo.done ⟨.returned (.tuple #[.int .i64 0, .bool false]), _, rfl, ⟨rfl, rfl⟩, rfl, rfl, rfl, rfl, _, Try.func23, by simp [results, Try.f23, Frame.at]⟩
set_option maxRecDepth 100000 in
theorem get_none (c room s r : Nat) (w : World) (h : QAt w c room [] false) (hc : w.heap[c]? = some (.chan room (ints []) false s r false)) :
    Calls Try.prog 23 #[.pointer (some ⟨c + 1, 0, none⟩)] w fun e w' => e = .returned (.tuple #[.int .i64 0, .bool false]) ∧ w' = w := by
  have h0 := h.cell0
  refine calls_of_loneTo fun cs => ?_
  have e : Frame.enter Try.prog 23 #[.pointer (some ⟨c + 1, 0, none⟩)] .normal = (base 23).at ⟨#[.pointer (some ⟨c + 1, 0, none⟩), undef, undef, undef, undef, undef, undef, undef, undef, undef, undef, undef, undef, undef, undef, undef, undef, undef, undef], []⟩ [.code (Try.f23.body.getD .skip)] := by
    simp [Frame.enter, Frame.at, Try.func23, base, Try.f23]
  rw [e]
  refine LoneTo.goes (n := 60) ?_
  simp only [Try.f23, Option.getD_some]
  s_c stepG_seq
  s_reg
  s_op
  s_op
  s_c stepG_region_end
  s_c stepG_seq
  s_reg
  s_op
  s_op
  s_op
  s_op
  s_c stepG_region_end
  s_c stepG_seq
  s_reg
  s_stop
  refine LoneTo.step (step_lone_select_default (c := c) (cap := room) (s := s) (r := r) (tm := false) (z := .int .i64 0) (stepG_comm (cases := #[rcase c (.int .i64 0)]) (blocking := false) (shape := .select) (w' := w) rfl rfl (by decide) (by simp [go_sem, execOp, rcase, Act.eval])) hc) ?_
  rw [Frame.finish_at]
  walk_nrm
  refine LoneTo.goes (n := 30) ?_
  s_op
  s_op
  s_c stepG_region_end
  s_c stepG_block
  s_cond false
  s_c stepG_seq
  s_reg
  s_op
  s_c stepG_region_end
  s_c stepG_seq
  s_reg
  s_op
  s_op
  s_op
  s_c stepG_region_end
  s_c stepG_ret'
  s_stop
  exact LoneTo.done ⟨.returned (.tuple #[.int .i64 0, .bool false]), _, rfl, ⟨rfl, rfl⟩, rfl, rfl, rfl, rfl, _, Try.func23, by simp [results, Try.f23, Frame.at]⟩
/-- What a queue hands over. -/
theorem get_cons (c room : Nat) (x : Int) (xs : List Int) (shut : Bool) (w : World) (h : QAt w c room (x :: xs) shut) :
    Calls Try.prog 23 #[.pointer (some ⟨c + 1, 0, none⟩)] w fun e w' => e = .returned (.tuple #[.int .i64 x, .bool true]) ∧ QAt w' c room xs shut ∧ Turn (Of c) w w' ∧ w'.heap.size = w.heap.size := by
  obtain ⟨s, r, hc⟩ := h.chan
  refine (get_some c room s r x xs shut w h hc).mono fun e w' ⟨he, hw⟩ => ?_
  subst hw
  have := h.fits
  exact ⟨he, h.turned s (r + 1) (by simp at this; omega), turn_setChan _ _ _ _ _ _ _, by simp [World.setChan]⟩
theorem get_nil (c room : Nat) (shut : Bool) (w : World) (h : QAt w c room [] shut) :
    Calls Try.prog 23 #[.pointer (some ⟨c + 1, 0, none⟩)] w fun e w' => e = .returned (.tuple #[.int .i64 0, .bool false]) ∧ w' = w := by
  obtain ⟨s, r, hc⟩ := h.chan
  cases shut with
  | true => exact get_shut c room s r w h hc
  | false => exact get_none c room s r w h hc
theorem get_any (c room : Nat) (xs : List Int) (shut : Bool) (w : World) (h : QAt w c room xs shut) :
    Calls Try.prog 23 #[.pointer (some ⟨c + 1, 0, none⟩)] w fun e w' => e = .returned (.tuple #[.int .i64 (xs.headD 0), .bool (!xs.isEmpty)]) ∧ QAt w' c room xs.tail shut ∧ Turn (Of c) w w' ∧ w'.heap.size = w.heap.size := by
  cases xs with
  | nil => exact (get_nil c room shut w h).mono fun e w' ⟨he, hw⟩ => ⟨he, by rw [hw]; exact h, by rw [hw]; exact Turn.refl _ _, by rw [hw]⟩
  | cons x xs => exact get_cons c room x xs shut w h

/-! ### Len, Room, Over -/
theorem len_any (c room : Nat) (xs : List Int) (shut : Bool) (w : World) (h : QAt w c room xs shut) :
    Calls Try.prog 15 #[.pointer (some ⟨c + 1, 0, none⟩)] w fun e w' => e = .returned (.int .i64 xs.length) ∧ w = w' := by
  have h0 := h.cell0
  obtain ⟨s, r, hc⟩ := h.chan
  have hl := fun ty => run_len_chan (P := Try.prog) 89 ty Try.underlying89 hc
  simp only [ints_size, goInt] at hl
  clear hc
  go_enter Try.func15, Try.ntmps15
  go_wp2
  go_ret
  exact ⟨rfl, rfl⟩
set_option maxRecDepth 100000 in
theorem room_any (c room : Nat) (xs : List Int) (shut : Bool) (w : World) (h : QAt w c room xs shut) :
    Calls Try.prog 16 #[.pointer (some ⟨c + 1, 0, none⟩)] w fun e w' => e = .returned (.int .i64 (roomL room xs shut)) ∧ ∃ n, w' = w.drewN n := by
  have h0 := h.cell0
  have h1 := h.cell1
  have hf := h.fits
  have hm := h.most
  obtain ⟨s, r, hc⟩ := h.chan
  have hl := fun ty => run_len_chan (P := Try.prog) 89 ty Try.underlying89 hc
  have hlq : ∀ (n : Nat) ty, (Builtin.len_ #[89] ty #[.chan (some c)]).run Try.prog (w.drewN n) = .ok (goInt (ints xs).size) (w.drewN n) := fun n ty => run_len_chan (P := Try.prog) (w := w.drewN n) 89 ty Try.underlying89 hc
  have hca : ∀ (n : Nat) ty, (Builtin.cap_ #[89] ty #[.chan (some c)]).run Try.prog (w.drewN n) = .ok (goInt room) (w.drewN n) := fun n ty => run_cap_chan (P := Try.prog) (w := w.drewN n) 89 ty Try.underlying89 hc
  simp only [ints_size, goInt] at hlq hca
  clear hc hl
  cases shut with
  | true =>
    go_enter Try.func16, Try.ntmps16
    go_wp2
    go_ret
    exact ⟨rfl, 0, rfl⟩
  | false =>
    go_enter Try.func16, Try.ntmps16
    go_wp2
    go_quiet (fail)
    go_wp2
    go_ret
    exact ⟨rfl, _, rfl⟩
theorem over_any (c room : Nat) (xs : List Int) (shut : Bool) (w : World) (h : QAt w c room xs shut) :
    Calls Try.prog 18 #[.pointer (some ⟨c + 1, 0, none⟩)] w fun e w' => e = .returned (.bool (shut && xs.isEmpty)) ∧ w = w' := by
  have h1 := h.cell1
  have hl := len_any c room xs shut w h
  cases shut with
  | true =>
    cases xs with
    | nil =>
      go_enter Try.func18, Try.ntmps18
      go_wp2_with (go_at_call 15; refine hl.mono ?_; rintro e w' ⟨rfl, rfl⟩)
      go_ret
      exact ⟨rfl, rfl⟩
    | cons x xs =>
      have ht : ((((x :: xs).length : Nat) : Int) == 0) = false := by simp; omega
      go_enter Try.func18, Try.ntmps18
      go_wp2_with (go_at_call 15; refine hl.mono ?_; rintro e w' ⟨rfl, rfl⟩)
      go_ret
      exact ⟨rfl, rfl⟩
  | false =>
    go_enter Try.func18, Try.ntmps18
    go_wp2_with (go_at_call 15; refine hl.mono ?_; rintro e w' ⟨rfl, rfl⟩)
    go_ret
    exact ⟨rfl, rfl⟩

/-! ### Shut -/
theorem shut_again (c room : Nat) (xs : List Int) (w : World) (h : QAt w c room xs true) :
    Calls Try.prog 22 #[.pointer (some ⟨c + 1, 0, none⟩)] w fun e w' => e = .returned (.tuple #[]) ∧ w' = w := by
  have h1 := h.cell1
  go_enter Try.func22, Try.ntmps22
  go_wp2
  refine bodyPost_ret (results_none rfl _ _ _) rfl ?_
  exact ⟨rfl, rfl⟩
theorem run_neq_chan_nil (c : Nat) (w : World) : (binOp .neq 89 (.chan (some c)) (.chan none)).run Try.prog w = .ok (.bool true) w := by kernel_rfl
theorem run_eql_chan (c d : Nat) (w : World) : (binOp .eql 89 (.chan (some c)) (.chan (some d))).run Try.prog w = .ok (.bool (decide (c = d))) w := by
  have : (binOp .eql 89 (.chan (some c)) (.chan (some d))).run Try.prog w = .ok (.bool (c == d)) w := by kernel_rfl
  rw [this]
  congr 2
theorem two_setCell {w : World} {b : Nat} {x y u : Value} {t : TypeId} (h : w.heap[b]? = some (.cells #[x, y] t (0, 0))) : (w.setCell ⟨b, 1, none⟩ u).heap[b]? = some (.cells #[x, u] t (0, 0)) := by
  have hlt := lt_of_block h
  have h' : w.heap[b] = .cells #[x, y] t (0, 0) := by simpa [Array.getElem?_eq_getElem hlt] using h
  show (w.heap.modify b _)[b]? = _
  rw [Array.getElem?_eq_getElem (by simpa using hlt), Array.getElem_modify_self, h']
  rfl
set_option maxRecDepth 100000 in
theorem shut_first (c room : Nat) (xs : List Int) (w : World) (h : QAt w c room xs false) :
    Calls Try.prog 22 #[.pointer (some ⟨c + 1, 0, none⟩)] w fun e w' => e = .returned (.tuple #[]) ∧ QAt w' c room xs true ∧ Turn (Of c) w w' ∧ w'.heap.size = w.heap.size := by
  have h0 := h.cell0
  have h1 := h.cell1
  have hlt := h.lt
  obtain ⟨s, r, hc⟩ := h.chan
  have hc' : (w.setCell ⟨c + 1, 1, none⟩ (.bool true)).heap[c]? = some (.chan room (ints xs) false s r false) := (Below.heap_setCell _ _ _ _ (by show c ≠ c + 1; omega)).trans hc
  have hcl := fun ats ty => run_close_open (P := Try.prog) (w := w.setCell ⟨c + 1, 1, none⟩ (.bool true)) ats ty hc'
  clear hc hc'
  have hfz : w.frozen? ⟨c + 1, 1, none⟩ = false := by simp [World.frozen?, h.box]
  have hb := two_setCell (u := .bool true) h.box
  have h0' : (w.setCell ⟨c + 1, 1, none⟩ (.bool true)).cell? ⟨c + 1, 0, none⟩ = some (.chan (some c)) := by simp [World.cell?, hb]
  have hn := run_neq_chan_nil c
  have HB := Lib.hid hb
  clear hb
  go_enter Try.func22, Try.ntmps22
  go_wp2
  refine bodyPost_end (results_none rfl _ _ _) rfl ?_
  have hf := h.fits
  have hm := h.most
  refine ⟨rfl, ⟨⟨s, r, ?_⟩, ?_, hf, hm⟩, ⟨rfl, rfl, rfl, by simp, ?_⟩, by simp⟩
  · show (Array.setIfInBounds _ c _)[c]? = _
    rw [Array.getElem?_setIfInBounds_self_of_lt (by simp; omega)]
  · show (Array.setIfInBounds _ c _)[c + 1]? = _
    rw [Array.getElem?_setIfInBounds_ne (by omega)]
    exact HB.out
  · intro k hk hS
    show (Array.setIfInBounds _ c _)[k]? = _
    rw [Array.getElem?_setIfInBounds_ne (fun e => hS (.inl e.symm))]
    exact Below.heap_setCell _ _ _ _ (fun e => hS (.inr e))
theorem shut_any (c room : Nat) (xs : List Int) (shut : Bool) (w : World) (h : QAt w c room xs shut) :
    Calls Try.prog 22 #[.pointer (some ⟨c + 1, 0, none⟩)] w fun e w' => e = .returned (.tuple #[]) ∧ QAt w' c room xs true ∧ Turn (Of c) w w' ∧ w'.heap.size = w.heap.size := by
  cases shut with
  | true => exact (shut_again c room xs w h).mono fun e w' ⟨he, hw⟩ => ⟨he, by rw [hw]; exact h, by rw [hw]; exact Turn.refl _ _, by rw [hw]⟩
  | false => exact shut_first c room xs w h
end Go.Proofs.Ytndhhpiklaffoaa.Mail
