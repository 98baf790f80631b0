/-
  Opened arguments of the laws of planes: rows of steps.
-/
import Derived.Test.YtkkcdahfiegopaaDoorPlOpen
import Derived.Test.YtkkcdahfiegopaaDoorPlCl
namespace Go.Proofs.YtkkcdahfiegopaaDoor.Pl
open Go.ChangeShapes Go.WideShapes Go.ChangeAt Go.RowKit Go.Joins Go.Deep Base
set_option linter.unusedVariables false
set_option linter.unusedSimpArgs false

instance : Inhabited Pop := ⟨⟨0, 0, 0, c0⟩⟩
section
variable {H : Type} {enc : TypeId × Value → H} {W : World} {base fuel : Nat} {held : Bool} {x : DataW H × List MemPlace} {a : Option Addr} {len cap : Nat}
set_option maxRecDepth 100000 in
set_option maxHeartbeats 1000000 in
theorem pops_open (h : DataW.trod enc Tryd.prog W base (fun _ => true) held fuel 24 (Value.cells (.slice a len cap)).toList = some x) :
    ∃ L : List Pop, OpsP W (.slice a len cap) L ∧ L.length ≤ maxLen ∧ ∀ p ∈ L, p.x.Ok := by
  rcases open_slice Tryd.underlying24 h with ⟨hcs, _⟩ | ⟨p, l, c, m, n, D, Pl, hcs, _, hl, hm, hmm, _, hx⟩
  · simp [Value.cells] at hcs
    obtain ⟨rfl, rfl, rfl⟩ := hcs
    exact ⟨[], ⟨none, 0, rfl, fun h => absurd rfl h⟩, by simp [maxLen], fun _ h => absurd h (by simp)⟩
  · simp [Value.cells] at hcs
    obtain ⟨rfl, rfl, rfl⟩ := hcs
    simp at hmm
    subst hmm
    have hC : Tryd.prog.cellsOf 38 = 8 := by kernel_rfl
    have c5 : Tryd.prog.cellsOf 36 = 5 := by kernel_rfl
    have c6 : Tryd.prog.cellsOf 3 = 1 := by kernel_rfl
    have c3 : Tryd.prog.cellsOf 5 = 1 := by kernel_rfl
    have c4 : Tryd.prog.cellsOf 4 = 1 := by kernel_rfl
    have one : ∀ i, i < m → ∃ q : Pop, q.x.Ok ∧ W.cell? (p.add (i * 8)) = some (.int .i64 q.k) ∧ W.cell? ((p.add (i * 8)).add 1) = some (.int .i64 q.i) ∧ W.cell? ((p.add (i * 8)).add 2) = some (.int .i64 q.z) ∧ W.cell? ((p.add (i * 8)).add 3) = some (.int .u8 q.x.b) ∧ W.cell? ((p.add (i * 8)).add 4) = some (.bool q.x.ge) ∧ W.cell? ((p.add (i * 8)).add 5) = some (.bool q.x.st) ∧ W.cell? ((p.add (i * 8)).add 6) = some (.int .u8 q.x.li) ∧ W.cell? ((p.add (i * 8)).add 7) = some (.int .u8 q.x.co) := by
      intro i hi
      obtain ⟨cs', hc, htr⟩ := hx i hi
      rw [hC] at hc
      obtain ⟨xs, n', _, _, hl3, hxl, hf⟩ := DataW.trod_struct Tryd.underlying38 htr
      obtain ⟨_, _, hat⟩ := World.cells?_some hc
      rw [hC] at hl3
      match cs', hl3 with
      | [u0, u1, u2, u3, u4, u5, u6, u7], _ =>
        match xs, hxl with
        | [y0, y1, y2, y3], _ =>
          have f0 := hf 0 _ rfl
          have f1 := hf 1 _ rfl
          have f2 := hf 2 _ rfl
          have f3 := hf 3 _ rfl
          simp [c5, c6] at f0 f1 f2 f3
          obtain ⟨n0, e0, _, w0⟩ := DataW.trod_int Tryd.underlying3 f0
          obtain ⟨n1, e1, _, w1⟩ := DataW.trod_int Tryd.underlying3 f1
          obtain ⟨n2, e2, _, w2⟩ := DataW.trod_int Tryd.underlying3 f2
          obtain ⟨zs, n'', _, _, hk3, hzl, hg⟩ := DataW.trod_struct Tryd.underlying36 f3
          match zs, hzl with
          | [z0, z1, z2, z3, z4], _ =>
            have g0 := hg 0 _ rfl
            have g1 := hg 1 _ rfl
            have g2 := hg 2 _ rfl
            have g3 := hg 3 _ rfl
            have g4 := hg 4 _ rfl
            simp [c3, c4] at g0 g1 g2 g3 g4
            obtain ⟨n3, e3, _, w3⟩ := DataW.trod_int Tryd.underlying5 g0
            obtain ⟨b4, e4, _⟩ := DataW.trod_bool Tryd.underlying4 g1
            obtain ⟨b5, e5, _⟩ := DataW.trod_bool Tryd.underlying4 g2
            obtain ⟨n6, e6, _, w6⟩ := DataW.trod_int Tryd.underlying5 g3
            obtain ⟨n7, e7, _, w7⟩ := DataW.trod_int Tryd.underlying5 g4
            simp at e0 e1 e2 e3 e4 e5 e6 e7
            subst e0 e1 e2 e3 e4 e5 e6 e7
            refine ⟨⟨n0, n1, n2, ⟨n3, b4, b5, n6, n7⟩⟩, ⟨byte_bd2 w3, byte_bd2 w6, byte_bd2 w7⟩, ?_, ?_, ?_, ?_, ?_, ?_, ?_, ?_⟩
            · have := hat 0 (by omega)
              simpa [Addr.add] using this
            · simpa using hat 1 (by omega)
            · simpa using hat 2 (by omega)
            · simpa using hat 3 (by omega)
            · simpa using hat 4 (by omega)
            · simpa using hat 5 (by omega)
            · simpa using hat 6 (by omega)
            · simpa using hat 7 (by omega)
    obtain ⟨f, hf⟩ := choose_lt one
    have hlen : ((List.range len).map f).length = len := by simp
    refine ⟨(List.range len).map f, ⟨some p, m, by rw [hlen], fun hne => ?_⟩, by rw [hlen]; omega, ?_⟩
    · have h0 : 0 < len := by
        rcases Nat.eq_zero_or_pos len with h | h
        · subst h; simp at hne
        · exact h
      obtain ⟨b, off, spot⟩ := p
      have h00 := (hf 0 (by omega)).2.1
      have hspot : spot = none := by simpa [Addr.add] using World.cell?_spot h00
      subst hspot
      refine ⟨b, off, rfl, ?_, fun i u hi => ?_⟩
      · have := World.block_lt_of_cell? W _ h00
        simpa [Addr.add] using this
      · obtain ⟨hi1, hi2⟩ := List.getElem?_eq_some_iff.1 hi
        simp at hi1 hi2
        have := hf i (by omega)
        rw [hi2] at this
        obtain ⟨_, g0, g1, g2, g3, g4, g5, g6, g7⟩ := this
        rw [add_at2] at g0 g1 g2 g3 g4 g5 g6 g7
        rw [add_at2] at g1 g2 g3 g4 g5 g6 g7
        exact ⟨g0, g1, g2, g3, g4, g5, g6, g7⟩
    · intro q hq
      obtain ⟨i, hi, rfl⟩ := List.mem_map.1 hq
      have := List.mem_range.1 hi
      exact (hf i (by omega)).1
end
end Go.Proofs.YtkkcdahfiegopaaDoor.Pl
