/-
  Steps of law 20, as arguments: rows of steps that came in.
-/
import Derived.Test.YtlcjiffnmpkndaaPlAddr
import Derived.ProofKit
import Derived.OpenShut
import Derived.ChangeOld
import Derived.Lib.SmallJoins
import Derived.Deep.Slices
import Derived.Deep.Matrix
import Derived.Deep.Fields
namespace Go.Proofs.Ytlcjiffnmpkndaa.Pl
open Go.ChangeShapes Go.WideShapes Go.ChangeAt Go.RowKit Go.Joins Go.Deep Base
set_option linter.unusedVariables false
set_option linter.unusedSimpArgs false

/-- A step. -/
structure Top where
  kind : Int
  at_ : Int
  byte : Int
  bytes : List Int
  ins : Bool
abbrev TC (g f : Nat) (o : Top) (vd : Value) (W : World) : Prop := W.cell? ⟨g, f, none⟩ = some (.int .i64 o.kind) ∧ W.cell? ⟨g, f + 1, none⟩ = some (.int .i64 o.at_) ∧ W.cell? ⟨g, f + 2, none⟩ = some (.int .u8 o.byte) ∧ W.cell? ⟨g, f + 3, none⟩ = some vd ∧ W.cell? ⟨g, f + 4, none⟩ = some (.bool o.ins)
/-- A row of steps that can be read. -/
def TopsAt (w : World) (v : Value) (L : List Top) : Prop :=
  ∃ a cap, v = .slice a L.length cap ∧ (L ≠ [] → ∃ g off, a = some ⟨g, off, none⟩ ∧ ∀ i o, L[i]? = some o → ∃ vd, TC g (off + i * 5) o vd w ∧ RowOf .u8 w vd o.bytes)
theorem TopsAt.kept {w w' : World} {v : Value} {L : List Top} (h : TopsAt w v L) (hc : ∀ b o x, w.cell? ⟨b, o, none⟩ = some x → w'.cell? ⟨b, o, none⟩ = some x) : TopsAt w' v L := by
  obtain ⟨a, cap, rfl, hr⟩ := h
  refine ⟨a, cap, rfl, fun hne => ?_⟩
  obtain ⟨g, off, rfl, hi⟩ := hr hne
  refine ⟨g, off, rfl, fun i o ho => ?_⟩
  obtain ⟨vd, ⟨c0, c1, c2, c3, c4⟩, hd⟩ := hi i o ho
  exact ⟨vd, ⟨hc _ _ _ c0, hc _ _ _ c1, hc _ _ _ c2, hc _ _ _ c3, hc _ _ _ c4⟩, hd.kept hc⟩
theorem TopsAt.below {w w' : World} {v : Value} {L : List Top} (h : TopsAt w v L) (t : Below w.heap.size w w') : TopsAt w' v L :=
  h.kept fun b o x hx => (t.cell (p := ⟨b, o, none⟩) (World.block_lt_of_cell? w ⟨b, o, none⟩ hx)).trans hx
/-- Opened arguments. -/
def Byte (n : Int) : Prop := 0 ≤ n ∧ n < 256
def I64o (n : Int) : Prop := -9223372036854775808 ≤ n ∧ n ≤ 9223372036854775807
theorem obyte_bd {n : Int} (h : (Lit.int .u8 n).wf = true) : Byte n := by have := u8_bd h; unfold Byte; omega
theorem oadd_at (b off i : Nat) : (Addr.mk b off none).add i = ⟨b, off + i, none⟩ := by
  unfold Addr.add; split <;> simp_all
instance : Inhabited Top := ⟨⟨0, 0, 0, [], false⟩⟩
instance : Inhabited (Top × Value) := ⟨(⟨0, 0, 0, [], false⟩, .slice none 0 0)⟩
/-- A step that came in. -/
structure TopOk (o : Top) : Prop where
  kd : I64o o.kind
  ad : I64o o.at_
  by_ : Byte o.byte
  ds : o.bytes.length ≤ maxLen
  db : ∀ n ∈ o.bytes, Byte n
section
variable {H : Type} {enc : TypeId × Value → H} {W : World} {base fuel : Nat} {held : Bool} {x : DataW H × List MemPlace} {a : Option Addr} {len cap : Nat}
set_option maxRecDepth 100000 in
theorem data_open {u : Value} {t : TypeId} (ht : Try.prog.underlying t = some (.slice 5)) (h : DataW.trod enc Try.prog W base (fun _ => true) held fuel t [u] = some x) :
    ∃ L : List Int, RowOf .u8 W u L ∧ L.length ≤ maxLen ∧ (∀ n ∈ L, Byte n) := by
  rcases open_ints ht Try.underlying5 (by kernel_rfl) h with ⟨hcs, _⟩ | ⟨p, l, c, zs, hcs, _, hl, hm, hz, _, hcell, hwz⟩
  · simp at hcs
    subst hcs
    exact ⟨[], ⟨none, 0, rfl, fun h => absurd rfl h⟩, by simp [maxLen], fun _ h => absurd h (by simp)⟩
  · simp at hcs
    subst hcs
    simp at hz
    have hlen : (zs.take l).length = l := by rw [List.length_take]; omega
    refine ⟨zs.take l, ⟨some p, c, by rw [hlen], fun hne => ?_⟩, by omega, fun n hn => obyte_bd (hwz n (List.mem_of_mem_take hn))⟩
    have h0 : 0 < l := by
      rcases Nat.eq_zero_or_pos l with h | h
      · subst h; simp at hne
      · exact h
    obtain ⟨b, off, spot⟩ := p
    have hspot : spot = none := by simpa [Addr.add] using World.cell?_spot (hcell 0 (by omega))
    subst hspot
    refine ⟨b, off, rfl, fun i hi => ?_⟩
    have h1 := hcell i (by omega)
    rw [oadd_at] at h1
    rw [h1, List.getElem?_take_of_lt (by omega)]
    rfl
set_option maxRecDepth 100000 in
theorem tops_open (h : DataW.trod enc Try.prog W base (fun _ => true) held fuel 60 (Value.cells (.slice a len cap)).toList = some x) :
    ∃ L : List Top, TopsAt W (.slice a len cap) L ∧ L.length ≤ maxLen ∧ ∀ o ∈ L, TopOk o := by
  rcases open_slice Try.underlying60 h with ⟨hcs, _⟩ | ⟨p, l, c, m, n, D, Pl, hcs, _, hl, hm, hmm, _, hx⟩
  · simp [Value.cells] at hcs
    obtain ⟨rfl, rfl, rfl⟩ := hcs
    exact ⟨[], ⟨none, 0, rfl, fun h => absurd rfl h⟩, by simp [maxLen], fun _ h => absurd h (by simp)⟩
  · simp [Value.cells] at hcs
    obtain ⟨rfl, rfl, rfl⟩ := hcs
    simp at hmm
    subst hmm
    have hC : Try.prog.cellsOf 63 = 5 := by kernel_rfl
    have c3 : Try.prog.cellsOf 5 = 1 := by kernel_rfl
    have c4 : Try.prog.cellsOf 3 = 1 := by kernel_rfl
    have c5 : Try.prog.cellsOf 61 = 1 := by kernel_rfl
    have c6 : Try.prog.cellsOf 4 = 1 := by kernel_rfl
    have one : ∀ i, i < m → ∃ q : Top × Value, TopOk q.1 ∧ W.cell? (p.add (i * 5)) = some (.int .i64 q.1.kind) ∧ W.cell? ((p.add (i * 5)).add 1) = some (.int .i64 q.1.at_) ∧ W.cell? ((p.add (i * 5)).add 2) = some (.int .u8 q.1.byte) ∧ W.cell? ((p.add (i * 5)).add 3) = some q.2 ∧ W.cell? ((p.add (i * 5)).add 4) = some (.bool q.1.ins) ∧ RowOf .u8 W q.2 q.1.bytes := by
      intro i hi
      obtain ⟨cs', hc, htr⟩ := hx i hi
      rw [hC] at hc
      obtain ⟨xs, n', _, _, hl3, hxl, hf⟩ := DataW.trod_struct Try.underlying63 htr
      obtain ⟨_, _, hat⟩ := World.cells?_some hc
      rw [hC] at hl3
      match cs', hl3 with
      | [u0, u1, u2, u3, u4], _ =>
        match xs, hxl with
        | [y0, y1, y2, y3, y4], _ =>
          have f0 := hf 0 _ rfl
          have f1 := hf 1 _ rfl
          have f2 := hf 2 _ rfl
          have f3 := hf 3 _ rfl
          have f4 := hf 4 _ rfl
          simp [c3, c4, c5, c6] at f0 f1 f2 f3 f4
          obtain ⟨n0, e0, _, w0⟩ := DataW.trod_int Try.underlying3 f0
          obtain ⟨n1, e1, _, w1⟩ := DataW.trod_int Try.underlying3 f1
          obtain ⟨n2, e2, _, w2⟩ := DataW.trod_int Try.underlying5 f2
          obtain ⟨L3, r3, l3, b3⟩ := data_open Try.underlying61 f3
          obtain ⟨n4, e4, _⟩ := DataW.trod_bool Try.underlying4 f4
          simp at e0 e1 e2 e4
          subst e0 e1 e2 e4
          refine ⟨(⟨n0, n1, n2, L3, n4⟩, u3), ⟨i64_bd w0, i64_bd w1, obyte_bd w2, l3, b3⟩, ?_, ?_, ?_, ?_, ?_, r3⟩
          · have := hat 0 (by omega)
            simpa [Addr.add] using this
          · simpa using hat 1 (by omega)
          · simpa using hat 2 (by omega)
          · simpa using hat 3 (by omega)
          · simpa using hat 4 (by omega)
    obtain ⟨f, hf⟩ := choose_lt one
    have hlen : ((List.range len).map fun i => (f i).1).length = len := by simp
    refine ⟨(List.range len).map fun i => (f i).1, ⟨some p, m, by rw [hlen], fun hne => ?_⟩, by rw [hlen]; omega, ?_⟩
    · have h0 : 0 < len := by
        rcases Nat.eq_zero_or_pos len with h | h
        · subst h; simp at hne
        · exact h
      obtain ⟨b, off, spot⟩ := p
      have h00 := (hf 0 (by omega)).2.1
      have hspot : spot = none := by simpa [Addr.add] using World.cell?_spot h00
      subst hspot
      refine ⟨b, off, rfl, fun i e hi => ?_⟩
      obtain ⟨hi1, hi2⟩ := List.getElem?_eq_some_iff.1 hi
      simp at hi1 hi2
      obtain ⟨_, g0, g1, g2, g3, g4, g5⟩ := hf i (by omega)
      rw [hi2] at g0 g1 g2 g4 g5
      rw [oadd_at] at g0 g1 g2 g3 g4
      rw [oadd_at] at g1 g2 g3 g4
      exact ⟨(f i).2, ⟨g0, g1, g2, g3, g4⟩, g5⟩
    · intro q hq
      obtain ⟨i, hi, rfl⟩ := List.mem_map.1 hq
      have := List.mem_range.1 hi
      exact (hf i (by omega)).1
end
end Go.Proofs.Ytlcjiffnmpkndaa.Pl
