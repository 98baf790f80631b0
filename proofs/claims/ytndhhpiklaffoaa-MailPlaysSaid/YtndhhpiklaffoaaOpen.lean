/-
  Arguments that are rows, opened: rows of numbers, of rows of numbers, of steps.
-/
import Derived.Test.YtndhhpiklaffoaaRows
import Derived.WalkKit
import Derived.ProofKit
import Derived.OpenShut
import Derived.ChangeOld
import Derived.Below
import Derived.Lib.SmallJoins
import Derived.Deep.Slices
import Derived.Deep.Matrix
import Derived.Deep.Fields
namespace Go.Proofs.Ytndhhpiklaffoaa.Open
open Go.ChangeShapes Go.WideShapes Go.ChangeAt Go.RowKit Go.Joins Go.Deep
set_option linter.unusedVariables false

/-- A slice value that reads as a row of numbers of kind k. -/
def RowOf (k : IntKind) (w : World) (v : Value) (L : List Int) : Prop :=
  ∃ a cap, v = .slice a L.length cap ∧ (L ≠ [] → ∃ b off, a = some ⟨b, off, none⟩ ∧ ∀ i, i < L.length → w.cell? ⟨b, off + i, none⟩ = some (.int k (L[i]?.getD 0)))
/-- A number of 64 bits. -/
def I64 (n : Int) : Prop := -9223372036854775808 ≤ n ∧ n ≤ 9223372036854775807
theorem i64_bd {n : Int} (h : (Lit.int .i64 n).wf = true) : I64 n := by
  have h' : IntKind.i64.min ≤ n ∧ n ≤ IntKind.i64.max := by simpa [Lit.wf] using h
  exact h'
/-- A row of steps in memory: two numbers and a bool each. -/
def OpsAt (w : World) (v : Value) (L : List (Int × Int × Bool)) : Prop :=
  ∃ a cap, v = .slice a L.length cap ∧ (L ≠ [] → ∃ g off, a = some ⟨g, off, none⟩ ∧ g < w.heap.size ∧ ∀ (i : Nat) (x y : Int) (b : Bool), L[i]? = some (x, y, b) → w.cell? ⟨g, off + i * 3, none⟩ = some (.int .i64 x) ∧ w.cell? ⟨g, off + i * 3 + 1, none⟩ = some (.int .i64 y) ∧ w.cell? ⟨g, off + i * 3 + 2, none⟩ = some (.bool b))
/-- A row of steps in memory: three numbers each. -/
def Ops3At (w : World) (v : Value) (L : List (Int × Int × Int)) : Prop :=
  ∃ a cap, v = .slice a L.length cap ∧ (L ≠ [] → ∃ g off, a = some ⟨g, off, none⟩ ∧ g < w.heap.size ∧ ∀ (i : Nat) (x y z : Int), L[i]? = some (x, y, z) → w.cell? ⟨g, off + i * 3, none⟩ = some (.int .i64 x) ∧ w.cell? ⟨g, off + i * 3 + 1, none⟩ = some (.int .i64 y) ∧ w.cell? ⟨g, off + i * 3 + 2, none⟩ = some (.int .i64 z))
/-- A row of rows of numbers in memory. -/
def RowsAt (w : World) (v : Value) (L : List (List Int)) : Prop :=
  ∃ a cap, v = .slice a L.length cap ∧ (L ≠ [] → ∃ g off, a = some ⟨g, off, none⟩ ∧ g < w.heap.size ∧ ∀ (i : Nat) (r : List Int), L[i]? = some r → ∃ u, w.cell? ⟨g, off + i, none⟩ = some u ∧ RowOf .i64 w u r)
theorem add_at (b off i : Nat) : (Addr.mk b off none).add i = ⟨b, off + i, none⟩ := by
  unfold Addr.add; split <;> simp_all
section
variable {H : Type} {enc : TypeId × Value → H} {W : World} {base fuel : Nat} {held : Bool} {x : DataW H × List MemPlace} {a : Option Addr} {len cap : Nat}
theorem ints_open {t : TypeId} (ht : Try.prog.underlying t = some (.slice 3)) (h : DataW.trod enc Try.prog W base (fun _ => true) held fuel t (Value.cells (.slice a len cap)).toList = some x) :
    ∃ L : List Int, RowOf .i64 W (.slice a len cap) L ∧ L.length ≤ maxLen ∧ ∀ n ∈ L, I64 n := by
  rcases open_ints ht Try.underlying3 (by kernel_rfl) h with ⟨hcs, _⟩ | ⟨p, l, c, zs, hcs, _, hl, hm, hz, _, hcell, hwz⟩
  · simp [Value.cells] at hcs
    obtain ⟨rfl, rfl, rfl⟩ := hcs
    exact ⟨[], ⟨none, 0, rfl, fun h => absurd rfl h⟩, by simp [maxLen], fun _ h => absurd h (by simp)⟩
  · simp [Value.cells] at hcs
    obtain ⟨rfl, rfl, rfl⟩ := hcs
    simp at hz
    have hlen : (zs.take len).length = len := by rw [List.length_take]; omega
    refine ⟨zs.take len, ⟨some p, cap, by rw [hlen], fun hne => ?_⟩, by omega, fun n hn => i64_bd (hwz n (List.mem_of_mem_take hn))⟩
    have h0 : 0 < len := by
      rcases Nat.eq_zero_or_pos len with h | h
      · subst h; simp at hne
      · exact h
    obtain ⟨b, off, spot⟩ := p
    have hspot : spot = none := by simpa [Addr.add] using World.cell?_spot (hcell 0 (by omega))
    subst hspot
    refine ⟨b, off, rfl, fun i hi => ?_⟩
    have h1 := hcell i (by omega)
    rw [add_at] at h1
    rw [h1, List.getElem?_take_of_lt (by omega)]
    rfl
theorem int64s_open {t : TypeId} (ht : Try.prog.underlying t = some (.slice 2)) (h : DataW.trod enc Try.prog W base (fun _ => true) held fuel t (Value.cells (.slice a len cap)).toList = some x) :
    ∃ L : List Int, RowOf .i64 W (.slice a len cap) L ∧ L.length ≤ maxLen ∧ ∀ n ∈ L, I64 n := by
  rcases open_ints ht Try.underlying2 (by kernel_rfl) h with ⟨hcs, _⟩ | ⟨p, l, c, zs, hcs, _, hl, hm, hz, _, hcell, hwz⟩
  · simp [Value.cells] at hcs
    obtain ⟨rfl, rfl, rfl⟩ := hcs
    exact ⟨[], ⟨none, 0, rfl, fun h => absurd rfl h⟩, by simp [maxLen], fun _ h => absurd h (by simp)⟩
  · simp [Value.cells] at hcs
    obtain ⟨rfl, rfl, rfl⟩ := hcs
    simp at hz
    have hlen : (zs.take len).length = len := by rw [List.length_take]; omega
    refine ⟨zs.take len, ⟨some p, cap, by rw [hlen], fun hne => ?_⟩, by omega, fun n hn => i64_bd (hwz n (List.mem_of_mem_take hn))⟩
    have h0 : 0 < len := by
      rcases Nat.eq_zero_or_pos len with h | h
      · subst h; simp at hne
      · exact h
    obtain ⟨b, off, spot⟩ := p
    have hspot : spot = none := by simpa [Addr.add] using World.cell?_spot (hcell 0 (by omega))
    subst hspot
    refine ⟨b, off, rfl, fun i hi => ?_⟩
    have h1 := hcell i (by omega)
    rw [add_at] at h1
    rw [h1, List.getElem?_take_of_lt (by omega)]
    rfl
set_option maxRecDepth 100000 in
theorem ops_open (h : DataW.trod enc Try.prog W base (fun _ => true) held fuel 22 (Value.cells (.slice a len cap)).toList = some x) :
    ∃ L : List (Int × Int × Bool), OpsAt W (.slice a len cap) L ∧ L.length ≤ maxLen ∧ ∀ p ∈ L, I64 p.1 ∧ I64 p.2.1 := by
  rcases open_slice Try.underlying22 h with ⟨hcs, _⟩ | ⟨p, l, c, m, n, D, Pl, hcs, _, hl, hm, hmm, _, hx⟩
  · simp [Value.cells] at hcs
    obtain ⟨rfl, rfl, rfl⟩ := hcs
    exact ⟨[], ⟨none, 0, rfl, fun h => absurd rfl h⟩, by simp [maxLen], fun _ h => absurd h (by simp)⟩
  · simp [Value.cells] at hcs
    obtain ⟨rfl, rfl, rfl⟩ := hcs
    simp at hmm
    subst hmm
    have hC : Try.prog.cellsOf 33 = 3 := by kernel_rfl
    have c3 : Try.prog.cellsOf 3 = 1 := by kernel_rfl
    have c4 : Try.prog.cellsOf 4 = 1 := by kernel_rfl
    have one : ∀ i, i < m → ∃ q : Int × Int × Bool, (I64 q.1 ∧ I64 q.2.1) ∧ W.cell? (p.add (i * 3)) = some (.int .i64 q.1) ∧ W.cell? ((p.add (i * 3)).add 1) = some (.int .i64 q.2.1) ∧ W.cell? ((p.add (i * 3)).add 2) = some (.bool q.2.2) := by
      intro i hi
      obtain ⟨cs', hc, htr⟩ := hx i hi
      rw [hC] at hc
      obtain ⟨xs, n', _, _, hl3, hxl, hf⟩ := DataW.trod_struct Try.underlying33 htr
      obtain ⟨_, _, hat⟩ := World.cells?_some hc
      rw [hC] at hl3
      match cs', hl3 with
      | [u0, u1, u2], _ =>
        match xs, hxl with
        | [y0, y1, y2], _ =>
          have f0 := hf 0 _ rfl
          have f1 := hf 1 _ rfl
          have f2 := hf 2 _ rfl
          simp [c3, c4] at f0 f1 f2
          obtain ⟨n0, e0, _, w0⟩ := DataW.trod_int Try.underlying3 f0
          obtain ⟨n1, e1, _, w1⟩ := DataW.trod_int Try.underlying3 f1
          obtain ⟨b2, e2, _⟩ := DataW.trod_bool Try.underlying4 f2
          simp at e0 e1 e2
          subst e0 e1 e2
          refine ⟨(n0, n1, b2), ⟨i64_bd w0, i64_bd w1⟩, ?_, ?_, ?_⟩
          · have := hat 0 (by omega)
            simpa [Addr.add] using this
          · simpa using hat 1 (by omega)
          · simpa using hat 2 (by omega)
    obtain ⟨f, hf⟩ := choose_lt one
    have hlen : ((List.range len).map f).length = len := by simp
    refine ⟨(List.range len).map f, ⟨some p, m, by rw [hlen], fun hne => ?_⟩, by rw [hlen]; omega, ?_⟩
    · have h0 : 0 < len := by
        rcases Nat.eq_zero_or_pos len with h | h
        · subst h; simp at hne
        · exact h
      obtain ⟨b, off, spot⟩ := p
      have h00 := (hf 0 (by omega)).2.1
      have hspot : spot = none := by simpa [Addr.add] using World.cell?_spot h00
      subst hspot
      refine ⟨b, off, rfl, ?_, fun i u v t hi => ?_⟩
      · have := World.block_lt_of_cell? W _ h00
        simpa [Addr.add] using this
      · obtain ⟨hi1, hi2⟩ := List.getElem?_eq_some_iff.1 hi
        simp at hi1 hi2
        have := hf i (by omega)
        rw [hi2] at this
        obtain ⟨_, g0, g1, g2⟩ := this
        rw [add_at] at g0 g1 g2
        rw [add_at] at g1 g2
        exact ⟨g0, g1, g2⟩
    · intro q hq
      obtain ⟨i, hi, rfl⟩ := List.mem_map.1 hq
      have := List.mem_range.1 hi
      exact (hf i (by omega)).1
set_option maxRecDepth 100000 in
theorem ops3_open (h : DataW.trod enc Try.prog W base (fun _ => true) held fuel 51 (Value.cells (.slice a len cap)).toList = some x) :
    ∃ L : List (Int × Int × Int), Ops3At W (.slice a len cap) L ∧ L.length ≤ maxLen ∧ ∀ p ∈ L, I64 p.1 ∧ I64 p.2.1 ∧ I64 p.2.2 := by
  rcases open_slice Try.underlying51 h with ⟨hcs, _⟩ | ⟨p, l, c, m, n, D, Pl, hcs, _, hl, hm, hmm, _, hx⟩
  · simp [Value.cells] at hcs
    obtain ⟨rfl, rfl, rfl⟩ := hcs
    exact ⟨[], ⟨none, 0, rfl, fun h => absurd rfl h⟩, by simp [maxLen], fun _ h => absurd h (by simp)⟩
  · simp [Value.cells] at hcs
    obtain ⟨rfl, rfl, rfl⟩ := hcs
    simp at hmm
    subst hmm
    have hC : Try.prog.cellsOf 62 = 3 := by kernel_rfl
    have c3 : Try.prog.cellsOf 3 = 1 := by kernel_rfl
    have c4 : Try.prog.cellsOf 2 = 1 := by kernel_rfl
    have one : ∀ i, i < m → ∃ q : Int × Int × Int, (I64 q.1 ∧ I64 q.2.1 ∧ I64 q.2.2) ∧ W.cell? (p.add (i * 3)) = some (.int .i64 q.1) ∧ W.cell? ((p.add (i * 3)).add 1) = some (.int .i64 q.2.1) ∧ W.cell? ((p.add (i * 3)).add 2) = some (.int .i64 q.2.2) := by
      intro i hi
      obtain ⟨cs', hc, htr⟩ := hx i hi
      rw [hC] at hc
      obtain ⟨xs, n', _, _, hl3, hxl, hf⟩ := DataW.trod_struct Try.underlying62 htr
      obtain ⟨_, _, hat⟩ := World.cells?_some hc
      rw [hC] at hl3
      match cs', hl3 with
      | [u0, u1, u2], _ =>
        match xs, hxl with
        | [y0, y1, y2], _ =>
          have f0 := hf 0 _ rfl
          have f1 := hf 1 _ rfl
          have f2 := hf 2 _ rfl
          simp [c3, c4] at f0 f1 f2
          obtain ⟨n0, e0, _, w0⟩ := DataW.trod_int Try.underlying3 f0
          obtain ⟨n1, e1, _, w1⟩ := DataW.trod_int Try.underlying3 f1
          obtain ⟨b2, e2, _, w2⟩ := DataW.trod_int Try.underlying2 f2
          simp at e0 e1 e2
          subst e0 e1 e2
          refine ⟨(n0, n1, b2), ⟨i64_bd w0, i64_bd w1, i64_bd w2⟩, ?_, ?_, ?_⟩
          · have := hat 0 (by omega)
            simpa [Addr.add] using this
          · simpa using hat 1 (by omega)
          · simpa using hat 2 (by omega)
    obtain ⟨f, hf⟩ := choose_lt one
    have hlen : ((List.range len).map f).length = len := by simp
    refine ⟨(List.range len).map f, ⟨some p, m, by rw [hlen], fun hne => ?_⟩, by rw [hlen]; omega, ?_⟩
    · have h0 : 0 < len := by
        rcases Nat.eq_zero_or_pos len with h | h
        · subst h; simp at hne
        · exact h
      obtain ⟨b, off, spot⟩ := p
      have h00 := (hf 0 (by omega)).2.1
      have hspot : spot = none := by simpa [Addr.add] using World.cell?_spot h00
      subst hspot
      refine ⟨b, off, rfl, ?_, fun i u v t hi => ?_⟩
      · have := World.block_lt_of_cell? W _ h00
        simpa [Addr.add] using this
      · obtain ⟨hi1, hi2⟩ := List.getElem?_eq_some_iff.1 hi
        simp at hi1 hi2
        have := hf i (by omega)
        rw [hi2] at this
        obtain ⟨_, g0, g1, g2⟩ := this
        rw [add_at] at g0 g1 g2
        rw [add_at] at g1 g2
        exact ⟨g0, g1, g2⟩
    · intro q hq
      obtain ⟨i, hi, rfl⟩ := List.mem_map.1 hq
      have := List.mem_range.1 hi
      exact (hf i (by omega)).1
theorem rows_open (h : DataW.trod enc Try.prog W base (fun _ => true) held fuel 47 (Value.cells (.slice a len cap)).toList = some x) :
    ∃ L : List (List Int), RowsAt W (.slice a len cap) L ∧ L.length ≤ maxLen ∧ ∀ r ∈ L, r.length ≤ maxLen ∧ ∀ n ∈ r, I64 n := by
  rcases open_int_rows Try.underlying47 Try.underlying27 Try.underlying3 (by kernel_rfl) (by kernel_rfl) h with ⟨hcs, _⟩ | ⟨p, l, c, A, Ln, C, Z, hcs, _, hl, hm, _, hx⟩
  · simp [Value.cells] at hcs
    obtain ⟨rfl, rfl, rfl⟩ := hcs
    exact ⟨[], ⟨none, 0, rfl, fun h => absurd rfl h⟩, by simp [maxLen], fun _ h => absurd h (by simp)⟩
  · simp [Value.cells] at hcs
    obtain ⟨rfl, rfl, rfl⟩ := hcs
    have hlen : ((List.range len).map fun r => (Z r).take (Ln r)).length = len := by simp
    refine ⟨(List.range len).map fun r => (Z r).take (Ln r), ⟨some p, cap, by rw [hlen], fun hne => ?_⟩, by rw [hlen]; omega, ?_⟩
    · have h0 : 0 < len := by
        rcases Nat.eq_zero_or_pos len with h | h
        · subst h; simp at hne
        · exact h
      obtain ⟨b, off, spot⟩ := p
      have h00 := (hx 0 (by omega)).1
      have hspot : spot = none := by simpa [Addr.add] using World.cell?_spot h00
      subst hspot
      refine ⟨b, off, rfl, ?_, fun i r hi => ?_⟩
      · have := World.block_lt_of_cell? W _ h00
        simpa [Addr.add] using this
      · obtain ⟨hi1, hi2⟩ := List.getElem?_eq_some_iff.1 hi
        simp at hi1 hi2
        obtain ⟨g0, g1, g2, g3, g4, g5, g6⟩ := hx i (by omega)
        rw [add_at] at g0
        have hr : r.length = Ln i := by rw [← hi2, List.length_take]; omega
        refine ⟨_, g0, ⟨A i, C i, by rw [hr], fun hne' => ?_⟩⟩
        have hL : 0 < Ln i := by
          rcases Nat.eq_zero_or_pos (Ln i) with h | h
          · rw [h] at hr; exact absurd (List.eq_nil_of_length_eq_zero hr) hne'
          · exact h
        cases hA : A i with
        | none => have := g5 hA; omega
        | some a' =>
          obtain ⟨_, hc⟩ := g6 a' hA
          obtain ⟨b', off', spot'⟩ := a'
          have hspot : spot' = none := by simpa [Addr.add] using World.cell?_spot (hc 0 (by omega))
          subst hspot
          refine ⟨b', off', rfl, fun j hj => ?_⟩
          have h1 := hc j (by omega)
          rw [add_at] at h1
          rw [h1, ← hi2, List.getElem?_take_of_lt (by omega)]
          rfl
    · intro r hr
      obtain ⟨i, hi, rfl⟩ := List.mem_map.1 hr
      have := List.mem_range.1 hi
      obtain ⟨g0, g1, g2, g3, g4, g5, g6⟩ := hx i (by omega)
      exact ⟨by rw [List.length_take]; omega, fun n hn => i64_bd (g4 n (List.mem_of_mem_take hn))⟩
end
end Go.Proofs.Ytndhhpiklaffoaa.Open
