/-
  Opened arguments: rows of orders.
-/
import Derived.Test.YtjeknociobbhpaaDoorOpenE
import Derived.Test.YtjeknociobbhpaaDoorOrdZC
namespace Go.Proofs.YtjeknociobbhpaaDoor.Open
open Go.ChangeShapes Go.WideShapes Go.ChangeAt Go.RowKit Go.Joins Go.Deep Base
open Go.Proofs.YtjeknociobbhpaaDoor.Ord
set_option linter.unusedVariables false

instance : Inhabited Or := ⟨⟨0, 0, 0, false, [], []⟩⟩
instance : Inhabited (Or × Value × Value) := ⟨(⟨0, 0, 0, false, [], []⟩, .slice none 0 0, .slice none 0 0)⟩
def Byte2o (p : Int × Int) : Prop := Byte p.1 ∧ Byte p.2
/-- An order that came in. -/
structure OrOk (o : Or) : Prop where
  kd : Byte o.kind
  ad : I64 o.addr
  by_ : Byte o.byte
  ps : o.pairs.length ≤ maxLen
  pb : ∀ p ∈ o.pairs, Byte2o p
  ds : o.data.length ≤ maxLen
  db : ∀ n ∈ o.data, Byte n
section
variable {H : Type} {enc : TypeId × Value → H} {W : World} {base fuel : Nat} {held : Bool} {x : DataW H × List MemPlace} {a : Option Addr} {len cap : Nat}
set_option maxRecDepth 100000 in
theorem data_open {u : Value} {t : TypeId} (ht : Tryd.prog.underlying t = some (.slice 5)) (h : DataW.trod enc Tryd.prog W base (fun _ => true) held fuel t [u] = some x) :
    ∃ L : List Int, RowOf .u8 W u L ∧ L.length ≤ maxLen ∧ (∀ n ∈ L, Byte n) ∧ ∀ n c, u = .slice none n c → c = 0 := by
  rcases open_ints ht Tryd.underlying5 (by kernel_rfl) h with ⟨hcs, _⟩ | ⟨p, l, c, zs, hcs, _, hl, hm, hz, _, hcell, hwz⟩
  · simp at hcs
    subst hcs
    exact ⟨[], ⟨none, 0, rfl, fun h => absurd rfl h⟩, by simp [maxLen], fun _ h => absurd h (by simp), fun n c e => by injection e with _ _ e; exact e.symm⟩
  · simp at hcs
    subst hcs
    simp at hz
    have hlen : (zs.take l).length = l := by rw [List.length_take]; omega
    refine ⟨zs.take l, ⟨some p, c, by rw [hlen], fun hne => ?_⟩, by omega, fun n hn => byte_bd (hwz n (List.mem_of_mem_take hn)), fun n c e => by cases e⟩
    have h0 : 0 < l := by
      rcases Nat.eq_zero_or_pos l with h | h
      · subst h; simp at hne
      · exact h
    obtain ⟨b, off, spot⟩ := p
    have hspot : spot = none := by simpa [Addr.add] using World.cell?_spot (hcell 0 (by omega))
    subst hspot
    refine ⟨b, off, rfl, fun i hi => ?_⟩
    have h1 := hcell i (by omega)
    rw [add_at] at h1
    rw [h1, List.getElem?_take_of_lt (by omega)]
    rfl
set_option maxRecDepth 100000 in
theorem pairs_one_open {u : Value} (h : DataW.trod enc Tryd.prog W base (fun _ => true) held fuel 33 [u] = some x) :
    ∃ L : List (Int × Int), PrAt W u L ∧ L.length ≤ maxLen ∧ ∀ p ∈ L, Byte2o p := by
  rcases open_slice Tryd.underlying33 h with ⟨hcs, _⟩ | ⟨p, l, c, m, n, D, Pl, hcs, _, hl, hm, hmm, hcm, hx⟩
  · simp at hcs
    subst hcs
    exact ⟨[], ⟨none, 0, rfl, fun h => absurd rfl h⟩, by simp [maxLen], fun _ h => absurd h (by simp)⟩
  · simp at hcs
    subst hcs
    simp at hmm
    have hC : Tryd.prog.cellsOf 58 = 2 := by kernel_rfl
    have c3 : Tryd.prog.cellsOf 5 = 1 := by kernel_rfl
    have one : ∀ i, i < m → ∃ q : Int × Int, Byte2o q ∧ W.cell? (p.add (i * 2)) = some (.int .u8 q.1) ∧ W.cell? ((p.add (i * 2)).add 1) = some (.int .u8 q.2) := by
      intro i hi
      obtain ⟨cs', hc, htr⟩ := hx i hi
      rw [hC] at hc
      obtain ⟨xs, n', _, _, hl3, hxl, hf⟩ := DataW.trod_struct Tryd.underlying58 htr
      obtain ⟨_, _, hat⟩ := World.cells?_some hc
      rw [hC] at hl3
      match cs', hl3 with
      | [u0, u1], _ =>
        match xs, hxl with
        | [y0, y1], _ =>
          have f0 := hf 0 _ rfl
          have f1 := hf 1 _ rfl
          simp [c3] at f0 f1
          obtain ⟨n1, e1, _, w1⟩ := DataW.trod_int Tryd.underlying5 f0
          obtain ⟨n2, e2, _, w2⟩ := DataW.trod_int Tryd.underlying5 f1
          simp at e1 e2
          subst e1 e2
          refine ⟨(n1, n2), ⟨byte_bd w1, byte_bd w2⟩, ?_, ?_⟩
          · have := hat 0 (by omega)
            simpa [Addr.add] using this
          · simpa using hat 1 (by omega)
    obtain ⟨f, hf⟩ := choose_lt one
    have hlen : ((List.range l).map f).length = l := by simp
    have hlm : l ≤ m := by omega
    refine ⟨(List.range l).map f, ⟨some p, c, by rw [hlen], fun hne => ?_⟩, by rw [hlen]; omega, ?_⟩
    · have h0 : 0 < l := by
        rcases Nat.eq_zero_or_pos l with h | h
        · subst h; simp at hne
        · exact h
      obtain ⟨b, off, spot⟩ := p
      have h00 := (hf 0 (by omega)).2.1
      have hspot : spot = none := by simpa [Addr.add] using World.cell?_spot h00
      subst hspot
      refine ⟨b, off, rfl, fun i q hi => ?_⟩
      obtain ⟨hi1, hi2⟩ := List.getElem?_eq_some_iff.1 hi
      simp at hi1 hi2
      obtain ⟨_, g0, g1⟩ := hf i (by omega)
      rw [hi2] at g0 g1
      rw [add_at] at g0 g1
      rw [add_at] at g1
      exact ⟨g0, g1⟩
    · intro q hq
      obtain ⟨i, hi, rfl⟩ := List.mem_map.1 hq
      have := List.mem_range.1 hi
      exact (hf i (by omega)).1
set_option maxRecDepth 100000 in
theorem orders_open (h : DataW.trod enc Tryd.prog W base (fun _ => true) held fuel 25 (Value.cells (.slice a len cap)).toList = some x) :
    ∃ L : List Or, OrdsAt2 W (.slice a len cap) L ∧ L.length ≤ maxLen ∧ ∀ o ∈ L, OrOk o := by
  rcases open_slice Tryd.underlying25 h with ⟨hcs, _⟩ | ⟨p, l, c, m, n, D, Pl, hcs, _, hl, hm, hmm, _, hx⟩
  · simp [Value.cells] at hcs
    obtain ⟨rfl, rfl, rfl⟩ := hcs
    exact ⟨[], ⟨none, 0, rfl, fun h => absurd rfl h⟩, by simp [maxLen], fun _ h => absurd h (by simp)⟩
  · simp [Value.cells] at hcs
    obtain ⟨rfl, rfl, rfl⟩ := hcs
    simp at hmm
    subst hmm
    have hC : Tryd.prog.cellsOf 35 = 6 := by kernel_rfl
    have c3 : Tryd.prog.cellsOf 5 = 1 := by kernel_rfl
    have c4 : Tryd.prog.cellsOf 3 = 1 := by kernel_rfl
    have c5 : Tryd.prog.cellsOf 22 = 1 := by kernel_rfl
    have c6 : Tryd.prog.cellsOf 4 = 1 := by kernel_rfl
    have c7 : Tryd.prog.cellsOf 33 = 1 := by kernel_rfl
    have one : ∀ i, i < m → ∃ q : Or × Value × Value, OrOk q.1 ∧ W.cell? (p.add (i * 6)) = some (.int .u8 q.1.kind) ∧ W.cell? ((p.add (i * 6)).add 1) = some (.int .i64 q.1.addr) ∧ W.cell? ((p.add (i * 6)).add 2) = some (.int .u8 q.1.byte) ∧ W.cell? ((p.add (i * 6)).add 3) = some (.bool q.1.ge) ∧ W.cell? ((p.add (i * 6)).add 4) = some q.2.1 ∧ W.cell? ((p.add (i * 6)).add 5) = some q.2.2 ∧ PrAt W q.2.1 q.1.pairs ∧ RowOf .u8 W q.2.2 q.1.data ∧ ∀ n c, q.2.2 = .slice none n c → c = 0 := by
      intro i hi
      obtain ⟨cs', hc, htr⟩ := hx i hi
      rw [hC] at hc
      obtain ⟨xs, n', _, _, hl3, hxl, hf⟩ := DataW.trod_struct Tryd.underlying35 htr
      obtain ⟨_, _, hat⟩ := World.cells?_some hc
      rw [hC] at hl3
      match cs', hl3 with
      | [u0, u1, u2, u3, u4, u5], _ =>
        match xs, hxl with
        | [y0, y1, y2, y3, y4, y5], _ =>
          have f0 := hf 0 _ rfl
          have f1 := hf 1 _ rfl
          have f2 := hf 2 _ rfl
          have f3 := hf 3 _ rfl
          have f4 := hf 4 _ rfl
          have f5 := hf 5 _ rfl
          simp [c3, c4, c5, c6, c7] at f0 f1 f2 f3 f4 f5
          obtain ⟨n0, e0, _, w0⟩ := DataW.trod_int Tryd.underlying5 f0
          obtain ⟨n1, e1, _, w1⟩ := DataW.trod_int Tryd.underlying3 f1
          obtain ⟨n2, e2, _, w2⟩ := DataW.trod_int Tryd.underlying5 f2
          obtain ⟨n3, e3, _⟩ := DataW.trod_bool Tryd.underlying4 f3
          obtain ⟨L4, r4, l4, b4⟩ := pairs_one_open f4
          obtain ⟨L5, r5, l5, b5, z5⟩ := data_open Tryd.underlying22 f5
          simp at e0 e1 e2 e3
          subst e0 e1 e2 e3
          refine ⟨(⟨n0, n1, n2, n3, L4, L5⟩, u4, u5), ⟨byte_bd w0, i64_bd w1, byte_bd w2, l4, b4, l5, b5⟩, ?_, ?_, ?_, ?_, ?_, ?_, r4, r5, z5⟩
          · have := hat 0 (by omega)
            simpa [Addr.add] using this
          · simpa using hat 1 (by omega)
          · simpa using hat 2 (by omega)
          · simpa using hat 3 (by omega)
          · simpa using hat 4 (by omega)
          · simpa using hat 5 (by omega)
    obtain ⟨f, hf⟩ := choose_lt one
    have hlen : ((List.range len).map fun i => (f i).1).length = len := by simp
    refine ⟨(List.range len).map fun i => (f i).1, ⟨some p, m, by rw [hlen], fun hne => ?_⟩, by rw [hlen]; omega, ?_⟩
    · have h0 : 0 < len := by
        rcases Nat.eq_zero_or_pos len with h | h
        · subst h; simp at hne
        · exact h
      obtain ⟨b, off, spot⟩ := p
      have h00 := (hf 0 (by omega)).2.1
      have hspot : spot = none := by simpa [Addr.add] using World.cell?_spot h00
      subst hspot
      refine ⟨b, off, rfl, ?_, fun i e hi => ?_⟩
      · have := World.block_lt_of_cell? W _ h00
        simpa [Addr.add] using this
      · obtain ⟨hi1, hi2⟩ := List.getElem?_eq_some_iff.1 hi
        simp at hi1 hi2
        obtain ⟨_, g0, g1, g2, g3, g4, g5, g6, g7, g8⟩ := hf i (by omega)
        rw [hi2] at g0 g1 g2 g3 g6 g7
        rw [add_at] at g0 g1 g2 g3 g4 g5
        rw [add_at] at g1 g2 g3 g4 g5
        exact ⟨(f i).2.1, (f i).2.2, ⟨g0, g1, g2, g3, g4, g5⟩, g6, g7, g8⟩
    · intro q hq
      obtain ⟨i, hi, rfl⟩ := List.mem_map.1 hq
      have := List.mem_range.1 hi
      exact (hf i (by omega)).1
end
end Go.Proofs.YtjeknociobbhpaaDoor.Open
