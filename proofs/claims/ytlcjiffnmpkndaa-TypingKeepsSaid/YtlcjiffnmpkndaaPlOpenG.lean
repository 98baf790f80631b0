/-
  Opened arguments of the laws of planes and fields: cells, rows of cells.
-/
import Derived.Test.YtlcjiffnmpkndaaPlOb
import Derived.ProofKit
import Derived.OpenShut
import Derived.ChangeOld
import Derived.Lib.SmallJoins
import Derived.Deep.Slices
import Derived.Deep.Matrix
import Derived.Deep.Fields
namespace Go.Proofs.Ytlcjiffnmpkndaa.Pl
open Go.ChangeShapes Go.WideShapes Go.ChangeAt Go.RowKit Go.Joins Go.Deep Base
set_option linter.unusedVariables false
set_option linter.unusedSimpArgs false

instance : Inhabited Cl := ⟨c0⟩
theorem byte_bd2 {n : Int} (h : (Lit.int .u8 n).wf = true) : 0 ≤ n ∧ n ≤ 255 := by have := u8_bd h; omega
theorem add_at2 (b off i : Nat) : (Addr.mk b off none).add i = ⟨b, off + i, none⟩ := by
  unfold Addr.add; split <;> simp_all
theorem array5 {α : Type} {cs : Array α} (h : cs.size = 5) : ∃ c0 c1 c2 c3 c4, cs = #[c0, c1, c2, c3, c4] := by
  obtain ⟨l⟩ := cs
  match l, h with
  | [c0, c1, c2, c3, c4], _ => exact ⟨c0, c1, c2, c3, c4, rfl⟩
section
variable {H : Type} {enc : TypeId × Value → H} {W : World} {base b0 : Nat} {spare : Nat → Bool} {held : Bool} {r : Reach} {v : Value} {d : DataW H} {p : List MemPlace}
set_option maxRecDepth 100000 in
theorem cell_open (hv : Value.okWide Try.prog W r b0 58 v) (h : DataW.Trod enc Try.prog W base spare held 58 v d p) : ∃ c : Cl, v = c.val ∧ c.Ok := by
  have hC : Try.prog.cellsOf 58 = 5 := by kernel_rfl
  have c3 : Try.prog.cellsOf 5 = 1 := by kernel_rfl
  have c4 : Try.prog.cellsOf 4 = 1 := by kernel_rfl
  obtain ⟨cs, rfl, hsz⟩ := okWide_struct Try.underlying58 hv
  obtain ⟨v0, v1, v2, v3, v4, rfl⟩ := array5 (hsz.trans hC)
  obtain ⟨fuel, hf⟩ := h
  obtain ⟨xs, n', _, _, hl3, hxl, hf⟩ := DataW.trod_struct Try.underlying58 hf
  match xs, hxl with
  | [y0, y1, y2, y3, y4], _ =>
    have f0 := hf 0 _ rfl
    have f1 := hf 1 _ rfl
    have f2 := hf 2 _ rfl
    have f3 := hf 3 _ rfl
    have f4 := hf 4 _ rfl
    simp [c3, c4, Value.cells] at f0 f1 f2 f3 f4
    obtain ⟨n0, e0, _, w0⟩ := DataW.trod_int Try.underlying5 f0
    obtain ⟨b1, e1, _⟩ := DataW.trod_bool Try.underlying4 f1
    obtain ⟨b2, e2, _⟩ := DataW.trod_bool Try.underlying4 f2
    obtain ⟨n3, e3, _, w3⟩ := DataW.trod_int Try.underlying5 f3
    obtain ⟨n4, e4, _, w4⟩ := DataW.trod_int Try.underlying5 f4
    simp at e0 e1 e2 e3 e4
    subst e0 e1 e2 e3 e4
    exact ⟨⟨n0, b1, b2, n3, n4⟩, rfl, byte_bd2 w0, byte_bd2 w3, byte_bd2 w4⟩
end
section
variable {H : Type} {enc : TypeId × Value → H} {W : World} {base fuel : Nat} {held : Bool} {x : DataW H × List MemPlace} {a : Option Addr} {len cap : Nat}
set_option maxRecDepth 100000 in
theorem cells_open (h : DataW.trod enc Try.prog W base (fun _ => true) held fuel 24 (Value.cells (.slice a len cap)).toList = some x) :
    ∃ L : List Cl, ClsAt W (.slice a len cap) L ∧ L.length ≤ maxLen ∧ ∀ c ∈ L, c.Ok := by
  rcases open_slice Try.underlying24 h with ⟨hcs, _⟩ | ⟨p, l, c, m, n, D, Pl, hcs, _, hl, hm, hmm, _, hx⟩
  · simp [Value.cells] at hcs
    obtain ⟨rfl, rfl, rfl⟩ := hcs
    exact ⟨[], ⟨none, 0, rfl, fun h => absurd rfl h⟩, by simp [maxLen], fun _ h => absurd h (by simp)⟩
  · simp [Value.cells] at hcs
    obtain ⟨rfl, rfl, rfl⟩ := hcs
    simp at hmm
    subst hmm
    have hC : Try.prog.cellsOf 58 = 5 := by kernel_rfl
    have c3 : Try.prog.cellsOf 5 = 1 := by kernel_rfl
    have c4 : Try.prog.cellsOf 4 = 1 := by kernel_rfl
    have one : ∀ i, i < m → ∃ q : Cl, q.Ok ∧ W.cell? (p.add (i * 5)) = some (.int .u8 q.b) ∧ W.cell? ((p.add (i * 5)).add 1) = some (.bool q.ge) ∧ W.cell? ((p.add (i * 5)).add 2) = some (.bool q.st) ∧ W.cell? ((p.add (i * 5)).add 3) = some (.int .u8 q.li) ∧ W.cell? ((p.add (i * 5)).add 4) = some (.int .u8 q.co) := by
      intro i hi
      obtain ⟨cs', hc, htr⟩ := hx i hi
      rw [hC] at hc
      obtain ⟨xs, n', _, _, hl3, hxl, hf⟩ := DataW.trod_struct Try.underlying58 htr
      obtain ⟨_, _, hat⟩ := World.cells?_some hc
      rw [hC] at hl3
      match cs', hl3 with
      | [u0, u1, u2, u3, u4], _ =>
        match xs, hxl with
        | [y0, y1, y2, y3, y4], _ =>
          have f0 := hf 0 _ rfl
          have f1 := hf 1 _ rfl
          have f2 := hf 2 _ rfl
          have f3 := hf 3 _ rfl
          have f4 := hf 4 _ rfl
          simp [c3, c4] at f0 f1 f2 f3 f4
          obtain ⟨n0, e0, _, w0⟩ := DataW.trod_int Try.underlying5 f0
          obtain ⟨b1, e1, _⟩ := DataW.trod_bool Try.underlying4 f1
          obtain ⟨b2, e2, _⟩ := DataW.trod_bool Try.underlying4 f2
          obtain ⟨n3, e3, _, w3⟩ := DataW.trod_int Try.underlying5 f3
          obtain ⟨n4, e4, _, w4⟩ := DataW.trod_int Try.underlying5 f4
          simp at e0 e1 e2 e3 e4
          subst e0 e1 e2 e3 e4
          refine ⟨⟨n0, b1, b2, n3, n4⟩, ⟨byte_bd2 w0, byte_bd2 w3, byte_bd2 w4⟩, ?_, ?_, ?_, ?_, ?_⟩
          · have := hat 0 (by omega)
            simpa [Addr.add] using this
          · simpa using hat 1 (by omega)
          · simpa using hat 2 (by omega)
          · simpa using hat 3 (by omega)
          · simpa using hat 4 (by omega)
    obtain ⟨f, hf⟩ := choose_lt one
    have hlen : ((List.range len).map f).length = len := by simp
    refine ⟨(List.range len).map f, ⟨some p, m, by rw [hlen], fun hne => ?_⟩, by rw [hlen]; omega, ?_⟩
    · have h0 : 0 < len := by
        rcases Nat.eq_zero_or_pos len with h | h
        · subst h; simp at hne
        · exact h
      obtain ⟨b, off, spot⟩ := p
      have h00 := (hf 0 (by omega)).2.1
      have hspot : spot = none := by simpa [Addr.add] using World.cell?_spot h00
      subst hspot
      refine ⟨b, off, rfl, ?_, fun i u hi => ?_⟩
      · have := World.block_lt_of_cell? W _ h00
        simpa [Addr.add] using this
      · obtain ⟨hi1, hi2⟩ := List.getElem?_eq_some_iff.1 hi
        simp at hi1 hi2
        have := hf i (by omega)
        rw [hi2] at this
        obtain ⟨_, g0, g1, g2, g3, g4⟩ := this
        rw [add_at2] at g0 g1 g2 g3 g4
        rw [add_at2] at g1 g2 g3 g4
        exact ⟨g0, g1, g2, g3, g4⟩
    · intro q hq
      obtain ⟨i, hi, rfl⟩ := List.mem_map.1 hq
      have := List.mem_range.1 hi
      exact (hf i (by omega)).1
end
end Go.Proofs.Ytlcjiffnmpkndaa.Pl
