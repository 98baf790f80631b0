/-
  What all layers lean on: worlds in which a few blocks are turned, rows of bytes and numbers.
-/
import Derived.Test.YtlcjiffnmpkndaaRows
import Derived.WalkKit
import Derived.WalkSpells
import Derived.WalkLawsBesides
import Derived.Deep.QuietTactic
import Derived.BigQuiet
import Derived.Outline
import Derived.Lib.Hide
import Derived.Laws.CopyOwn
import Derived.Deep.DeepCutAuto
import Derived.OneCell
import Derived.KernelRfl
import Derived.Laws.Rows
import Derived.Below
import Derived.Deep.RegionHeld3
import Derived.Laws.BytesArg
namespace Go.Proofs.Ytlcjiffnmpkndaa.Base
open Go.RowKit
set_option linter.unusedVariables false

theorem ret_int {k : IntKind} {a b : Int} (h : a = b) : Ending.returned (.int k a) = .returned (.int k b) := by rw [h]
theorem ret_bool {a b : Bool} (h : a = b) : Ending.returned (.bool a) = .returned (.bool b) := by rw [h]
theorem i64_bd {n : Int} (h : (Lit.int .i64 n).wf = true) : -9223372036854775808 ≤ n ∧ n ≤ 9223372036854775807 := by
  simp [Lit.wf, IntKind.min, IntKind.max, IntKind.bits, IntKind.signed] at h; omega
theorem u8_bd {n : Int} (h : (Lit.int .u8 n).wf = true) : 0 ≤ n ∧ n ≤ 255 := by
  simp [Lit.wf, IntKind.min, IntKind.max, IntKind.bits, IntKind.signed] at h; omega
/-- All blocks but those of S are as they were. -/
structure Turn (S : Nat → Prop) (w w' : World) : Prop where
  os : w'.os = w.os
  tape : w'.tape = w.tape
  output : w'.output = w.output
  size : w.heap.size ≤ w'.heap.size
  block : ∀ k, k < w.heap.size → ¬ S k → w'.heap[k]? = w.heap[k]?
def At (b : Nat) (k : Nat) : Prop := k = b
def Or2 (S T : Nat → Prop) (k : Nat) : Prop := S k ∨ T k
theorem Turn.refl (S : Nat → Prop) (w : World) : Turn S w w := ⟨rfl, rfl, rfl, Nat.le_refl _, fun _ _ _ => rfl⟩
theorem Turn.trans {S : Nat → Prop} {a b c : World} (h : Turn S a b) (k : Turn S b c) : Turn S a c :=
  ⟨k.os.trans h.os, k.tape.trans h.tape, k.output.trans h.output, Nat.le_trans h.size k.size, fun i hi hS => (k.block i (Nat.lt_of_lt_of_le hi h.size) hS).trans (h.block i hi hS)⟩
theorem Turn.mono {S S' : Nat → Prop} {a b : World} (h : Turn S a b) (hS : ∀ k, S k → S' k) : Turn S' a b :=
  ⟨h.os, h.tape, h.output, h.size, fun k hk hn => h.block k hk (fun h' => hn (hS k h'))⟩
theorem Turn.of_below {S : Nat → Prop} {a b : World} (h : Below a.heap.size a b) : Turn S a b := ⟨h.os, h.tape, h.output, h.size, fun k hk _ => h.block k hk⟩
theorem Turn.below {S : Nat → Prop} {a b : World} {B : Nat} (h : Turn S a b) (hB : B ≤ a.heap.size) (hS : ∀ k, S k → B ≤ k) : Below B a b :=
  ⟨h.os, h.tape, h.output, h.size, fun k hk => h.block k (Nat.lt_of_lt_of_le hk hB) (fun h' => absurd (hS k h') (by omega))⟩
theorem Turn.at_below {a b : World} {s B : Nat} (h : Turn (At s) a b) (hB : B ≤ a.heap.size) (hs : B ≤ s) : Below B a b := h.below hB fun k hk => by rw [show k = s from hk]; exact hs
theorem below_drewN {B : Nat} {a w : World} (h : Below B a w) (n : Nat) : Below B a (w.drewN n) := ⟨h.os, h.tape, h.output, h.size, h.block⟩
theorem below_alloc (w : World) (o : Obj) : Below w.heap.size w (w.alloc o) := (Below.refl _ w).alloc (Nat.le_refl _) o
theorem Turn.drewN {S : Nat → Prop} {a b : World} (h : Turn S a b) (n : Nat) : Turn S a (b.drewN n) := ⟨h.os, h.tape, h.output, h.size, h.block⟩
theorem Turn.drew {S : Nat → Prop} {a b : World} (h : Turn S a b) : Turn S a b.drew := ⟨h.os, h.tape, h.output, h.size, h.block⟩
theorem Turn.grown {S : Nat → Prop} {a b c : World} {row : Option Nat} (h : Turn S a b) (g : b.grownBy c row) (hr : ∀ k, row = some k → a.heap.size ≤ k ∨ S k) : Turn S a c :=
  ⟨g.os.trans h.os, g.tape.trans h.tape, g.output.trans h.output, Nat.le_trans h.size g.size, fun k hk hS => (g.block k (Nat.lt_of_lt_of_le hk h.size) (fun e => (hr k e.symm).elim (fun h => absurd hk (by omega)) hS)).trans (h.block k hk hS)⟩
theorem turn_set (W : World) (b o : Nat) (x : Value) : Turn (At b) W (W.setCell ⟨b, o, none⟩ x) :=
  ⟨rfl, rfl, rfl, by simp, fun k _ hS => Below.heap_setCell _ _ _ _ (fun e => hS e)⟩
theorem heap_set {w : World} {b : Nat} {cur : Array Value} {t : TypeId} (h : w.heap[b]? = some (.cells cur t (0, 0))) (o : Nat) (u : Value) : (w.setCell ⟨b, o, none⟩ u).heap[b]? = some (.cells (cur.setIfInBounds o u) t (0, 0)) := by
  have hlt := lt_of_block h
  have h' : w.heap[b] = .cells cur t (0, 0) := by simpa [Array.getElem?_eq_getElem hlt] using h
  show (w.heap.modify b _)[b]? = _
  rw [Array.getElem?_eq_getElem (by simpa using hlt), Array.getElem_modify_self, h']
  simp
theorem ownsRow_base {w : World} {base base' : Nat} {e : TypeId} {size : Nat} {v : Value} {n : Nat} {xs : List Value} (h : w.ownsRow base e size v n xs) (hb : base' ≤ base) : w.ownsRow base' e size v n xs := by
  refine ⟨h.1, ?_⟩
  rcases h.2 with h2 | ⟨g, cap, cur, hv, hg, rest⟩
  · exact .inl h2
  · exact .inr ⟨g, cap, cur, hv, by omega, rest⟩
/-- A slice value that reads as a row of numbers of kind k. -/
def RowOf (k : IntKind) (w : World) (v : Value) (L : List Int) : Prop :=
  ∃ a cap, v = .slice a L.length cap ∧ (L ≠ [] → ∃ b off, a = some ⟨b, off, none⟩ ∧ ∀ i, i < L.length → w.cell? ⟨b, off + i, none⟩ = some (.int k (L[i]?.getD 0)))
theorem RowOf.nil (k : IntKind) (w : World) : RowOf k w (.slice none 0 0) [] := ⟨none, 0, rfl, fun h => absurd rfl h⟩
theorem RowOf.of_owns {k : IntKind} {w : World} {base : Nat} {e : TypeId} {v : Value} {L : List Int} (h : w.ownsRow base e 1 v L.length (L.map (Value.int k))) : RowOf k w v L := by
  rcases h.2 with ⟨rfl, h0⟩ | ⟨g, cap, cur, rfl, _, hg, _, _, _, _⟩
  · exact ⟨none, 0, by rw [h0], fun hne => absurd (List.eq_nil_of_length_eq_zero h0) hne⟩
  · refine ⟨_, cap, rfl, fun _ => ⟨g, 0, rfl, fun i hi => ?_⟩⟩
    have := World.ownsRow.cells h (g := g) rfl i (.int k (L[i]?.getD 0)) (by simp [hi])
    rw [show (0 : Nat) + i = i from Nat.zero_add i]
    by_cases hi0 : i = 0
    · subst hi0; simpa [Addr.add] using this
    · simpa [Addr.add, hi0] using this
theorem RowOf.kept {k : IntKind} {w w' : World} {v : Value} {L : List Int} (h : RowOf k w v L) (hc : ∀ b o x, w.cell? ⟨b, o, none⟩ = some x → w'.cell? ⟨b, o, none⟩ = some x) : RowOf k w' v L := by
  obtain ⟨a, cap, rfl, hr⟩ := h
  exact ⟨a, cap, rfl, fun hne => by obtain ⟨b, off, rfl, hi⟩ := hr hne; exact ⟨b, off, rfl, fun i h => hc _ _ _ (hi i h)⟩⟩
theorem RowOf.below {k : IntKind} {w w' : World} {v : Value} {L : List Int} (h : RowOf k w v L) (hb : Below w.heap.size w w') : RowOf k w' v L :=
  h.kept fun _ o _ hx => (hb.cell (p := ⟨_, o, none⟩) (World.block_lt_of_cell? w ⟨_, o, none⟩ hx)).trans hx
/-- .. in blocks of S. -/
def RowIn (S : Nat → Prop) (k : IntKind) (w : World) (v : Value) (L : List Int) : Prop :=
  ∃ a cap, v = .slice a L.length cap ∧ (L ≠ [] → ∃ b off, a = some ⟨b, off, none⟩ ∧ S b ∧ b < w.heap.size ∧ ∀ i, i < L.length → w.cell? ⟨b, off + i, none⟩ = some (.int k (L[i]?.getD 0)))
theorem RowIn.row {S : Nat → Prop} {k : IntKind} {w : World} {v : Value} {L : List Int} (h : RowIn S k w v L) : RowOf k w v L := by
  obtain ⟨a, cap, rfl, hr⟩ := h
  exact ⟨a, cap, rfl, fun hne => by obtain ⟨b, off, rfl, _, _, hi⟩ := hr hne; exact ⟨b, off, rfl, hi⟩⟩
theorem RowIn.nil (S : Nat → Prop) (k : IntKind) (w : World) : RowIn S k w (.slice none 0 0) [] := ⟨none, 0, rfl, fun h => absurd rfl h⟩
theorem RowIn.mono {S S' : Nat → Prop} {k : IntKind} {w : World} {v : Value} {L : List Int} (h : RowIn S k w v L) (hS : ∀ b, S b → S' b) : RowIn S' k w v L := by
  obtain ⟨a, cap, rfl, hr⟩ := h
  exact ⟨a, cap, rfl, fun hne => by obtain ⟨b, off, rfl, hb, hlt, hi⟩ := hr hne; exact ⟨b, off, rfl, hS b hb, hlt, hi⟩⟩
theorem RowOf.lower {k : IntKind} {w : World} {v : Value} {L : List Int} (h : RowOf k w v L) : RowIn (fun _ => True) k w v L := by
  obtain ⟨a, cap, rfl, hr⟩ := h
  refine ⟨a, cap, rfl, fun hne => ?_⟩
  obtain ⟨b, off, rfl, hi⟩ := hr hne
  have h0 := hi 0 (List.length_pos_iff.2 hne)
  exact ⟨b, off, rfl, trivial, World.block_lt_of_cell? w ⟨b, off + 0, none⟩ h0, hi⟩
theorem RowOf.lowK {k : IntKind} {w : World} {v : Value} {L : List Int} (h : RowOf k w v L) : RowIn (fun b => b < w.heap.size) k w v L := by
  obtain ⟨a, cap, rfl, hr⟩ := h.lower
  exact ⟨a, cap, rfl, fun hne => by obtain ⟨b, off, rfl, _, hlt, hi⟩ := hr hne; exact ⟨b, off, rfl, hlt, hlt, hi⟩⟩
theorem RowIn.low {S : Nat → Prop} {k : IntKind} {w : World} {v : Value} {L : List Int} (h : RowIn S k w v L) : RowIn (fun b => S b ∧ b < w.heap.size) k w v L := by
  obtain ⟨a, cap, rfl, hr⟩ := h
  exact ⟨a, cap, rfl, fun hne => by obtain ⟨b, off, rfl, hb, hlt, hi⟩ := hr hne; exact ⟨b, off, rfl, ⟨hb, hlt⟩, hlt, hi⟩⟩
theorem cell_block {w w' : World} {b : Nat} (h : w'.heap[b]? = w.heap[b]?) (o : Nat) : w'.cell? ⟨b, o, none⟩ = w.cell? ⟨b, o, none⟩ := by simp [World.cell?, h]
theorem RowIn.turn {S T : Nat → Prop} {k : IntKind} {w w' : World} {v : Value} {L : List Int} (h : RowIn S k w v L) (t : Turn T w w') (hST : ∀ b, S b → ¬ T b) : RowIn S k w' v L := by
  obtain ⟨a, cap, rfl, hr⟩ := h
  refine ⟨a, cap, rfl, fun hne => ?_⟩
  obtain ⟨b, off, rfl, hb, hlt, hi⟩ := hr hne
  exact ⟨b, off, rfl, hb, Nat.lt_of_lt_of_le hlt t.size, fun i hi' => (cell_block (t.block b hlt (hST b hb)) _).trans (hi i hi')⟩
theorem RowIn.below {S : Nat → Prop} {k : IntKind} {w w' : World} {v : Value} {L : List Int} (h : RowIn S k w v L) (hb : Below w.heap.size w w') : RowIn S k w' v L :=
  h.turn (T := fun _ => False) (Turn.of_below hb) fun _ _ => id
theorem RowIn.of_owns {k : IntKind} {w : World} {base : Nat} {e : TypeId} {v : Value} {L : List Int} (h : w.ownsRow base e 1 v L.length (L.map (Value.int k))) : RowIn (fun b => base ≤ b) k w v L := by
  rcases h.2 with ⟨rfl, h0⟩ | ⟨g, cap, cur, rfl, hbg, hg, _, _, _, _⟩
  · exact ⟨none, 0, by rw [h0], fun hne => absurd (List.eq_nil_of_length_eq_zero h0) hne⟩
  · refine ⟨_, cap, rfl, fun _ => ⟨g, 0, rfl, hbg, lt_of_block hg, fun i hi => ?_⟩⟩
    have := World.ownsRow.cells h (g := g) rfl i (.int k (L[i]?.getD 0)) (by simp [hi])
    rw [show (0 : Nat) + i = i from Nat.zero_add i]
    by_cases hi0 : i = 0
    · subst hi0; simpa [Addr.add] using this
    · simpa [Addr.add, hi0] using this
theorem RowIn.row' {S : Nat → Prop} {k : IntKind} {w : World} {v : Value} {L : List Int} (h : RowIn S k w v L) (n : Nat) : RowOf k (w.drewN n) v L := h.row
/-- A row of bytes as a string. -/
theorem row_str {w : World} {v : Value} {L : List Int} (h : RowOf .u8 w v L) : (convert 61 9 v).run Try.prog w = .ok (.string (strOfNums L)) w := by
  obtain ⟨a, cap, rfl, hr⟩ := h
  by_cases hne : L = []
  · subst hne
    cases a with
    | none => exact run_convert_bytes_nil w 61 5 Try.underlying61 Try.underlying5 0 cap 9 Try.underlying9
    | some p =>
      rw [run_convert_bytes_string w 61 9 5 _ _ cap Try.underlying61 Try.underlying5 Try.underlying9]
      rw [run_bytesToString w p ([] : List Int).length cap [] (by rfl)]
      rfl
  · obtain ⟨b, off, rfl, hc⟩ := hr hne
    exact run_convert_bytes_arg w 61 5 Try.underlying61 Try.underlying5 b off L.length cap L rfl (fun i hi => by rw [hc i hi]; rfl) 9 Try.underlying9
end Go.Proofs.Ytlcjiffnmpkndaa.Base
