/-
  Arguments that are rows, opened: bytes, numbers, steps, wishes.
-/
import Derived.Test.YtkolhjglehnigaaBase
import Derived.ProofKit
import Derived.OpenShut
import Derived.ChangeOld
import Derived.Lib.SmallJoins
import Derived.Deep.Slices
import Derived.Deep.Matrix
import Derived.Deep.Fields
namespace Go.Proofs.Ytkolhjglehnigaa.Open
open Go.ChangeShapes Go.WideShapes Go.ChangeAt Go.RowKit Go.Joins Go.Deep Base
set_option linter.unusedVariables false

def Byte (n : Int) : Prop := 0 ≤ n ∧ n < 256
def I64 (n : Int) : Prop := -9223372036854775808 ≤ n ∧ n ≤ 9223372036854775807
theorem byte_bd {n : Int} (h : (Lit.int .u8 n).wf = true) : Byte n := by have := u8_bd h; unfold Byte; omega
theorem add_at (b off i : Nat) : (Addr.mk b off none).add i = ⟨b, off + i, none⟩ := by
  unfold Addr.add; split <;> simp_all
/-- A row of steps in memory: a bool and two bytes each. -/
def StepsAt (w : World) (v : Value) (L : List (Bool × Nat × Nat)) : Prop :=
  ∃ a cap, v = .slice a L.length cap ∧ (L ≠ [] → ∃ g off, a = some ⟨g, off, none⟩ ∧ g < w.heap.size ∧ ∀ (i : Nat) (b : Bool) (x y : Nat), L[i]? = some (b, x, y) → w.cell? ⟨g, off + i * 3, none⟩ = some (.bool b) ∧ w.cell? ⟨g, off + i * 3 + 1, none⟩ = some (.int .u8 x) ∧ w.cell? ⟨g, off + i * 3 + 2, none⟩ = some (.int .u8 y))
/-- A row of wishes in memory: a bool, two bytes and a number each. -/
def WishesAt (w : World) (v : Value) (L : List (Bool × Nat × Nat × Int)) : Prop :=
  ∃ a cap, v = .slice a L.length cap ∧ (L ≠ [] → ∃ g off, a = some ⟨g, off, none⟩ ∧ g < w.heap.size ∧ ∀ (i : Nat) (b : Bool) (x y : Nat) (z : Int), L[i]? = some (b, x, y, z) → w.cell? ⟨g, off + i * 4, none⟩ = some (.bool b) ∧ w.cell? ⟨g, off + i * 4 + 1, none⟩ = some (.int .u8 x) ∧ w.cell? ⟨g, off + i * 4 + 2, none⟩ = some (.int .u8 y) ∧ w.cell? ⟨g, off + i * 4 + 3, none⟩ = some (.int .i64 z))
section
variable {H : Type} {enc : TypeId × Value → H} {W : World} {base fuel : Nat} {held : Bool} {x : DataW H × List MemPlace} {a : Option Addr} {len cap : Nat}
theorem bytes_open {t : TypeId} (ht : Try.prog.underlying t = some (.slice 5)) (h : DataW.trod enc Try.prog W base (fun _ => true) held fuel t (Value.cells (.slice a len cap)).toList = some x) :
    ∃ L : List Int, RowOf .u8 W (.slice a len cap) L ∧ L.length ≤ maxLen ∧ ∀ n ∈ L, Byte n := by
  rcases open_ints ht Try.underlying5 (by kernel_rfl) h with ⟨hcs, _⟩ | ⟨p, l, c, zs, hcs, _, hl, hm, hz, _, hcell, hwz⟩
  · simp [Value.cells] at hcs
    obtain ⟨rfl, rfl, rfl⟩ := hcs
    exact ⟨[], ⟨none, 0, rfl, fun h => absurd rfl h⟩, by simp [maxLen], fun _ h => absurd h (by simp)⟩
  · simp [Value.cells] at hcs
    obtain ⟨rfl, rfl, rfl⟩ := hcs
    simp at hz
    have hlen : (zs.take len).length = len := by rw [List.length_take]; omega
    refine ⟨zs.take len, ⟨some p, cap, by rw [hlen], fun hne => ?_⟩, by omega, fun n hn => byte_bd (hwz n (List.mem_of_mem_take hn))⟩
    have h0 : 0 < len := by
      rcases Nat.eq_zero_or_pos len with h | h
      · subst h; simp at hne
      · exact h
    obtain ⟨b, off, spot⟩ := p
    have hspot : spot = none := by simpa [Addr.add] using World.cell?_spot (hcell 0 (by omega))
    subst hspot
    refine ⟨b, off, rfl, fun i hi => ?_⟩
    have h1 := hcell i (by omega)
    rw [add_at] at h1
    rw [h1, List.getElem?_take_of_lt (by omega)]
    rfl
theorem ints_open {t : TypeId} (ht : Try.prog.underlying t = some (.slice 3)) (h : DataW.trod enc Try.prog W base (fun _ => true) held fuel t (Value.cells (.slice a len cap)).toList = some x) :
    ∃ L : List Int, RowOf .i64 W (.slice a len cap) L ∧ L.length ≤ maxLen ∧ ∀ n ∈ L, I64 n := by
  rcases open_ints ht Try.underlying3 (by kernel_rfl) h with ⟨hcs, _⟩ | ⟨p, l, c, zs, hcs, _, hl, hm, hz, _, hcell, hwz⟩
  · simp [Value.cells] at hcs
    obtain ⟨rfl, rfl, rfl⟩ := hcs
    exact ⟨[], ⟨none, 0, rfl, fun h => absurd rfl h⟩, by simp [maxLen], fun _ h => absurd h (by simp)⟩
  · simp [Value.cells] at hcs
    obtain ⟨rfl, rfl, rfl⟩ := hcs
    simp at hz
    have hlen : (zs.take len).length = len := by rw [List.length_take]; omega
    refine ⟨zs.take len, ⟨some p, cap, by rw [hlen], fun hne => ?_⟩, by omega, fun n hn => i64_bd (hwz n (List.mem_of_mem_take hn))⟩
    have h0 : 0 < len := by
      rcases Nat.eq_zero_or_pos len with h | h
      · subst h; simp at hne
      · exact h
    obtain ⟨b, off, spot⟩ := p
    have hspot : spot = none := by simpa [Addr.add] using World.cell?_spot (hcell 0 (by omega))
    subst hspot
    refine ⟨b, off, rfl, fun i hi => ?_⟩
    have h1 := hcell i (by omega)
    rw [add_at] at h1
    rw [h1, List.getElem?_take_of_lt (by omega)]
    rfl
set_option maxRecDepth 100000 in
theorem wishes_open (h : DataW.trod enc Try.prog W base (fun _ => true) held fuel 41 (Value.cells (.slice a len cap)).toList = some x) :
    ∃ L : List (Bool × Nat × Nat × Int), WishesAt W (.slice a len cap) L ∧ L.length ≤ maxLen ∧ ∀ p ∈ L, p.2.1 < 256 ∧ p.2.2.1 < 256 ∧ I64 p.2.2.2 := by
  rcases open_slice Try.underlying41 h with ⟨hcs, _⟩ | ⟨p, l, c, m, n, D, Pl, hcs, _, hl, hm, hmm, _, hx⟩
  · simp [Value.cells] at hcs
    obtain ⟨rfl, rfl, rfl⟩ := hcs
    exact ⟨[], ⟨none, 0, rfl, fun h => absurd rfl h⟩, by simp [maxLen], fun _ h => absurd h (by simp)⟩
  · simp [Value.cells] at hcs
    obtain ⟨rfl, rfl, rfl⟩ := hcs
    simp at hmm
    subst hmm
    have hC : Try.prog.cellsOf 51 = 4 := by kernel_rfl
    have c3 : Try.prog.cellsOf 5 = 1 := by kernel_rfl
    have c4 : Try.prog.cellsOf 4 = 1 := by kernel_rfl
    have c5 : Try.prog.cellsOf 3 = 1 := by kernel_rfl
    have one : ∀ i, i < m → ∃ q : Bool × Nat × Nat × Int, (q.2.1 < 256 ∧ q.2.2.1 < 256 ∧ I64 q.2.2.2) ∧ W.cell? (p.add (i * 4)) = some (.bool q.1) ∧ W.cell? ((p.add (i * 4)).add 1) = some (.int .u8 q.2.1) ∧ W.cell? ((p.add (i * 4)).add 2) = some (.int .u8 q.2.2.1) ∧ W.cell? ((p.add (i * 4)).add 3) = some (.int .i64 q.2.2.2) := by
      intro i hi
      obtain ⟨cs', hc, htr⟩ := hx i hi
      rw [hC] at hc
      obtain ⟨xs, n', _, _, hl3, hxl, hf⟩ := DataW.trod_struct Try.underlying51 htr
      obtain ⟨_, _, hat⟩ := World.cells?_some hc
      rw [hC] at hl3
      match cs', hl3 with
      | [u0, u1, u2, u3], _ =>
        match xs, hxl with
        | [y0, y1, y2, y3], _ =>
          have f0 := hf 0 _ rfl
          have f1 := hf 1 _ rfl
          have f2 := hf 2 _ rfl
          have f3 := hf 3 _ rfl
          simp [c3, c4, c5] at f0 f1 f2 f3
          obtain ⟨b0, e0, _⟩ := DataW.trod_bool Try.underlying4 f0
          obtain ⟨n1, e1, _, w1⟩ := DataW.trod_int Try.underlying5 f1
          obtain ⟨n2, e2, _, w2⟩ := DataW.trod_int Try.underlying5 f2
          obtain ⟨n3, e3, _, w3⟩ := DataW.trod_int Try.underlying3 f3
          obtain ⟨h1, h1'⟩ := byte_bd w1
          obtain ⟨h2, h2'⟩ := byte_bd w2
          obtain ⟨k1, rfl⟩ : ∃ k : Nat, n1 = (k : Int) := ⟨n1.toNat, by omega⟩
          obtain ⟨k2, rfl⟩ : ∃ k : Nat, n2 = (k : Int) := ⟨n2.toNat, by omega⟩
          simp at e0 e1 e2 e3
          subst e0 e1 e2 e3
          refine ⟨(b0, k1, k2, n3), ⟨by show k1 < 256; omega, by show k2 < 256; omega, i64_bd w3⟩, ?_, ?_, ?_, ?_⟩
          · have := hat 0 (by omega)
            simpa [Addr.add] using this
          · simpa using hat 1 (by omega)
          · simpa using hat 2 (by omega)
          · simpa using hat 3 (by omega)
    obtain ⟨f, hf⟩ := choose_lt one
    have hlen : ((List.range len).map f).length = len := by simp
    refine ⟨(List.range len).map f, ⟨some p, m, by rw [hlen], fun hne => ?_⟩, by rw [hlen]; omega, ?_⟩
    · have h0 : 0 < len := by
        rcases Nat.eq_zero_or_pos len with h | h
        · subst h; simp at hne
        · exact h
      obtain ⟨b, off, spot⟩ := p
      have h00 := (hf 0 (by omega)).2.1
      have hspot : spot = none := by simpa [Addr.add] using World.cell?_spot h00
      subst hspot
      refine ⟨b, off, rfl, ?_, fun i u v t z hi => ?_⟩
      · have := World.block_lt_of_cell? W _ h00
        simpa [Addr.add] using this
      · obtain ⟨hi1, hi2⟩ := List.getElem?_eq_some_iff.1 hi
        simp at hi1 hi2
        have := hf i (by omega)
        rw [hi2] at this
        obtain ⟨_, g0, g1, g2, g3⟩ := this
        rw [add_at] at g0 g1 g2 g3
        rw [add_at] at g1 g2 g3
        exact ⟨g0, g1, g2, g3⟩
    · intro q hq
      obtain ⟨i, hi, rfl⟩ := List.mem_map.1 hq
      have := List.mem_range.1 hi
      exact (hf i (by omega)).1
end
end Go.Proofs.Ytkolhjglehnigaa.Open
