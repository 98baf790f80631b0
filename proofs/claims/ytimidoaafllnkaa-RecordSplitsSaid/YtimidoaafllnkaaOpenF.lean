/-
  Opened arguments: rows of events.
-/
import Derived.Test.YtimidoaafllnkaaOpenE
import Derived.Test.YtimidoaafllnkaaIacD
namespace Go.Proofs.Ytimidoaafllnkaa.Open
open Go.ChangeShapes Go.WideShapes Go.ChangeAt Go.RowKit Go.Joins Go.Deep Base Iac
set_option linter.unusedVariables false

instance : Inhabited Ev := ⟨⟨0, 0, 0, []⟩⟩
instance : Inhabited (Ev × Value) := ⟨(⟨0, 0, 0, []⟩, .slice none 0 0)⟩
def EvOk (e : Ev) : Prop := I64 e.kind ∧ Byte e.code ∧ Byte e.option ∧ e.bytes.length ≤ maxLen ∧ ∀ n ∈ e.bytes, Byte n
section
variable {H : Type} {enc : TypeId × Value → H} {W : World} {base fuel : Nat} {held : Bool} {x : DataW H × List MemPlace} {a : Option Addr} {len cap : Nat}
theorem bytes_one_open {u : Value} {t : TypeId} (ht : Try.prog.underlying t = some (.slice 5)) (h : DataW.trod enc Try.prog W base (fun _ => true) held fuel t [u] = some x) :
    ∃ L : List Int, RowOf .u8 W u L ∧ L.length ≤ maxLen ∧ ∀ n ∈ L, Byte n := by
  rcases open_ints ht Try.underlying5 (by kernel_rfl) h with ⟨hcs, _⟩ | ⟨p, l, c, zs, hcs, _, hl, hm, hz, _, hcell, hwz⟩
  · simp at hcs
    subst hcs
    exact ⟨[], ⟨none, 0, rfl, fun h => absurd rfl h⟩, by simp [maxLen], fun _ h => absurd h (by simp)⟩
  · simp at hcs
    subst hcs
    simp at hz
    have hlen : (zs.take l).length = l := by rw [List.length_take]; omega
    refine ⟨zs.take l, ⟨some p, c, by rw [hlen], fun hne => ?_⟩, by omega, fun n hn => byte_bd (hwz n (List.mem_of_mem_take hn))⟩
    have h0 : 0 < l := by
      rcases Nat.eq_zero_or_pos l with h | h
      · subst h; simp at hne
      · exact h
    obtain ⟨b, off, spot⟩ := p
    have hspot : spot = none := by simpa [Addr.add] using World.cell?_spot (hcell 0 (by omega))
    subst hspot
    refine ⟨b, off, rfl, fun i hi => ?_⟩
    have h1 := hcell i (by omega)
    rw [add_at] at h1
    rw [h1, List.getElem?_take_of_lt (by omega)]
    rfl

set_option maxRecDepth 100000 in
theorem events_open (h : DataW.trod enc Try.prog W base (fun _ => true) held fuel 22 (Value.cells (.slice a len cap)).toList = some x) :
    ∃ L : List Ev, EvsAt W (.slice a len cap) L ∧ L.length ≤ maxLen ∧ ∀ p ∈ L, EvOk p := by
  rcases open_slice Try.underlying22 h with ⟨hcs, _⟩ | ⟨p, l, c, m, n, D, Pl, hcs, _, hl, hm, hmm, _, hx⟩
  · simp [Value.cells] at hcs
    obtain ⟨rfl, rfl, rfl⟩ := hcs
    exact ⟨[], ⟨none, 0, rfl, fun h => absurd rfl h⟩, by simp [maxLen], fun _ h => absurd h (by simp)⟩
  · simp [Value.cells] at hcs
    obtain ⟨rfl, rfl, rfl⟩ := hcs
    simp at hmm
    subst hmm
    have hC : Try.prog.cellsOf 26 = 4 := by kernel_rfl
    have c3 : Try.prog.cellsOf 5 = 1 := by kernel_rfl
    have c4 : Try.prog.cellsOf 3 = 1 := by kernel_rfl
    have c5 : Try.prog.cellsOf 24 = 1 := by kernel_rfl
    have one : ∀ i, i < m → ∃ q : Ev × Value, EvOk q.1 ∧ W.cell? (p.add (i * 4)) = some (.int .i64 q.1.kind) ∧ W.cell? ((p.add (i * 4)).add 1) = some (.int .u8 q.1.code) ∧ W.cell? ((p.add (i * 4)).add 2) = some (.int .u8 q.1.option) ∧ W.cell? ((p.add (i * 4)).add 3) = some q.2 ∧ RowOf .u8 W q.2 q.1.bytes := by
      intro i hi
      obtain ⟨cs', hc, htr⟩ := hx i hi
      rw [hC] at hc
      obtain ⟨xs, n', _, _, hl3, hxl, hf⟩ := DataW.trod_struct Try.underlying26 htr
      obtain ⟨_, _, hat⟩ := World.cells?_some hc
      rw [hC] at hl3
      match cs', hl3 with
      | [u0, u1, u2, u3], _ =>
        match xs, hxl with
        | [y0, y1, y2, y3], _ =>
          have f0 := hf 0 _ rfl
          have f1 := hf 1 _ rfl
          have f2 := hf 2 _ rfl
          have f3 := hf 3 _ rfl
          simp [c3, c4, c5] at f0 f1 f2 f3
          obtain ⟨n0, e0, _, w0⟩ := DataW.trod_int Try.underlying3 f0
          obtain ⟨n1, e1, _, w1⟩ := DataW.trod_int Try.underlying5 f1
          obtain ⟨n2, e2, _, w2⟩ := DataW.trod_int Try.underlying5 f2
          obtain ⟨L3, r3, l3, b3⟩ := bytes_one_open Try.underlying24 f3
          simp at e0 e1 e2
          subst e0 e1 e2
          refine ⟨(⟨n0, n1, n2, L3⟩, u3), ⟨i64_bd w0, byte_bd w1, byte_bd w2, l3, b3⟩, ?_, ?_, ?_, ?_, r3⟩
          · have := hat 0 (by omega)
            simpa [Addr.add] using this
          · simpa using hat 1 (by omega)
          · simpa using hat 2 (by omega)
          · simpa using hat 3 (by omega)
    obtain ⟨f, hf⟩ := choose_lt one
    have hlen : ((List.range len).map fun i => (f i).1).length = len := by simp
    refine ⟨(List.range len).map fun i => (f i).1, ⟨some p, m, by rw [hlen], fun hne => ?_⟩, by rw [hlen]; omega, ?_⟩
    · have h0 : 0 < len := by
        rcases Nat.eq_zero_or_pos len with h | h
        · subst h; simp at hne
        · exact h
      obtain ⟨b, off, spot⟩ := p
      have h00 := (hf 0 (by omega)).2.1
      have hspot : spot = none := by simpa [Addr.add] using World.cell?_spot h00
      subst hspot
      refine ⟨b, off, rfl, ?_, fun i e hi => ?_⟩
      · have := World.block_lt_of_cell? W _ h00
        simpa [Addr.add] using this
      · obtain ⟨hi1, hi2⟩ := List.getElem?_eq_some_iff.1 hi
        simp at hi1 hi2
        obtain ⟨_, g0, g1, g2, g3, g4⟩ := hf i (by omega)
        rw [hi2] at g0 g1 g2 g4
        rw [add_at] at g0 g1 g2 g3
        rw [add_at] at g1 g2 g3
        exact ⟨(f i).2, g0, g1, g2, g3, g4⟩
    · intro q hq
      obtain ⟨i, hi, rfl⟩ := List.mem_map.1 hq
      have := List.mem_range.1 hi
      exact (hf i (by omega)).1
end
end Go.Proofs.Ytimidoaafllnkaa.Open
