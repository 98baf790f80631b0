/-
  The walk of AddrPlaces: it returns true whatever comes, and leaves all that was in memory as it was.
-/
import Derived.Test.YtpmcpllcfmgpgaaAddrPlacesB
import Derived.Test.YtpmcpllcfmgpgaaAddrPlacesC
import Derived.Test.YtpmcpllcfmgpgaaAddrPlacesD
import Derived.Test.YtpmcpllcfmgpgaaAddrPlacesE
namespace Go.Proofs.Ytpmcpllcfmgpgaa
open Go.RowKit
set_option linter.unusedVariables false
theorem addrPlaces_walk (r c : Int) (hr : (Lit.int .i64 r).wf = true) (hc : (Lit.int .i64 c).wf = true) (x : Int) (hx : (Lit.int .i64 x).wf = true) (y : Int) (hy : (Lit.int .i64 y).wf = true) (p : Int) (hp : (Lit.int .i64 p).wf = true) (b : Int) (hb : (Lit.int .i64 b).wf = true) (q : Int) (hq : (Lit.int .i64 q).wf = true) (w : World) :
    Calls Try.prog 10 #[.agg #[.int .i64 r, .int .i64 c], .int .i64 x, .int .i64 y, .int .i64 p, .int .i64 b, .int .i64 q] w fun e w' => e = .returned (.bool true) ∧ Below w.heap.size w w' := by
  obtain ⟨n, hn⟩ : ∃ n, cells r c = n := ⟨_, rfl⟩
  have hbd := cells_bd r c
  rw [hn] at hbd
  obtain ⟨n0, n1⟩ := hbd
  have HN := Lib.hid hn
  have ha := and4095 q
  have m1 : 0 ≤ q % 4096 := by omega
  have m2 : q % 4096 ≤ 4095 := by omega
  have M1 : 1 ≤ 1 + q % 4096 := by omega
  have M2 : 1 + q % 4096 ≤ 4096 := by omega
  by_cases i0 : n = 0
  · by_cases s0 : p < 0
    · exact places_a1b1 r c x y p b n q _ _ HN ha m1 m2 rfl M1 M2 n0 n1 w i0 s0
    · exact places_a1b2 r c x y p b n q _ _ HN ha m1 m2 rfl M1 M2 n0 n1 w i0 (by omega) (by omega)
  by_cases i1 : x < 0
  · by_cases s0 : p < 0
    · exact places_a2b1 r c x y p b n q _ _ HN ha m1 m2 rfl M1 M2 n0 n1 w i0 i1 s0
    by_cases s1 : p < n
    · exact places_a2b0 r c x y p b n q _ _ HN ha m1 m2 rfl M1 M2 n0 n1 w i0 i1 (by omega) s1
    · exact places_a2b2 r c x y p b n q _ _ HN ha m1 m2 rfl M1 M2 n0 n1 w i0 i1 (by omega) (by omega)
  by_cases i2 : r ≤ x
  · by_cases s0 : p < 0
    · exact places_a3b1 r c x y p b n q _ _ HN ha m1 m2 rfl M1 M2 n0 n1 w i0 (by omega) i2 s0
    by_cases s1 : p < n
    · exact places_a3b0 r c x y p b n q _ _ HN ha m1 m2 rfl M1 M2 n0 n1 w i0 (by omega) i2 (by omega) s1
    · exact places_a3b2 r c x y p b n q _ _ HN ha m1 m2 rfl M1 M2 n0 n1 w i0 (by omega) i2 (by omega) (by omega)
  by_cases i3 : y < 0
  · by_cases s0 : p < 0
    · exact places_a4b1 r c x y p b n q _ _ HN ha m1 m2 rfl M1 M2 n0 n1 w i0 (by omega) (by omega) i3 s0
    by_cases s1 : p < n
    · exact places_a4b0 r c x y p b n q _ _ HN ha m1 m2 rfl M1 M2 n0 n1 w i0 (by omega) (by omega) i3 (by omega) s1
    · exact places_a4b2 r c x y p b n q _ _ HN ha m1 m2 rfl M1 M2 n0 n1 w i0 (by omega) (by omega) i3 (by omega) (by omega)
  by_cases i4 : c ≤ y
  · by_cases s0 : p < 0
    · exact places_a5b1 r c x y p b n q _ _ HN ha m1 m2 rfl M1 M2 n0 n1 w i0 (by omega) (by omega) (by omega) i4 s0
    by_cases s1 : p < n
    · exact places_a5b0 r c x y p b n q _ _ HN ha m1 m2 rfl M1 M2 n0 n1 w i0 (by omega) (by omega) (by omega) i4 (by omega) s1
    · exact places_a5b2 r c x y p b n q _ _ HN ha m1 m2 rfl M1 M2 n0 n1 w i0 (by omega) (by omega) (by omega) i4 (by omega) (by omega)
  by_cases s0 : p < 0
  · exact places_a0b1 r c x y p b n q _ _ HN ha m1 m2 rfl M1 M2 n0 n1 w i0 (by omega) (by omega) (by omega) (by omega) s0
  by_cases s1 : p < n
  · exact places_a0b0 r c x y p b n q _ _ HN ha m1 m2 rfl M1 M2 n0 n1 w i0 (by omega) (by omega) (by omega) (by omega) (by omega) s1
  · exact places_a0b2 r c x y p b n q _ _ HN ha m1 m2 rfl M1 M2 n0 n1 w i0 (by omega) (by omega) (by omega) (by omega) (by omega) (by omega)

end Go.Proofs.Ytpmcpllcfmgpgaa
