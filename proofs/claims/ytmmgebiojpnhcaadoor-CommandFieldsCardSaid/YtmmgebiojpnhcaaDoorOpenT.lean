/-
  Opened arguments: rows of rows of bytes, each with its room.
-/
import Derived.Test.YtmmgebiojpnhcaaDoorOpenE
import Derived.Test.YtmmgebiojpnhcaaDoorOpenH
namespace Go.Proofs.YtmmgebiojpnhcaaDoor.Open
open Go.ChangeShapes Go.WideShapes Go.ChangeAt Go.RowKit Go.Joins Go.Deep Base
set_option linter.unusedVariables false

/-- Rows of bytes, each with its room, in a row. -/
def RowsT (w : World) (v : Value) (X : List (List Int)) : Prop :=
  ∃ a cap, v = .slice a X.length cap ∧ (X ≠ [] → ∃ g off, a = some ⟨g, off, none⟩ ∧ g < w.heap.size ∧ ∀ (i : Nat) (r : List Int), X[i]? = some r → ∃ u, w.cell? ⟨g, off + i, none⟩ = some u ∧ CutRow w u r)
section
variable {H : Type} {enc : TypeId × Value → H} {W : World} {base fuel : Nat} {held : Bool} {x : DataW H × List MemPlace} {a : Option Addr} {len cap : Nat}
theorem rowsT_open (h : DataW.trod enc Tryd.prog W base (fun _ => true) held fuel 48 (Value.cells (.slice a len cap)).toList = some x) :
    ∃ L : List (List Int), RowsT W (.slice a len cap) L ∧ L.length ≤ maxLen ∧ ∀ r ∈ L, r.length ≤ maxLen ∧ ∀ n ∈ r, Byte n := by
  rcases open_int_rows Tryd.underlying48 Tryd.underlying22 Tryd.underlying5 (by kernel_rfl) (by kernel_rfl) h with ⟨hcs, _⟩ | ⟨p, l, c, A, Ln, C, Z, hcs, _, hl, hm, _, hx⟩
  · simp [Value.cells] at hcs
    obtain ⟨rfl, rfl, rfl⟩ := hcs
    exact ⟨[], ⟨none, 0, rfl, fun h => absurd rfl h⟩, by simp [maxLen], fun _ h => absurd h (by simp)⟩
  · simp [Value.cells] at hcs
    obtain ⟨rfl, rfl, rfl⟩ := hcs
    have hlen : ((List.range len).map fun r => (Z r).take (Ln r)).length = len := by simp
    refine ⟨(List.range len).map fun r => (Z r).take (Ln r), ⟨some p, cap, by rw [hlen], fun hne => ?_⟩, by rw [hlen]; omega, ?_⟩
    · have h0 : 0 < len := by
        rcases Nat.eq_zero_or_pos len with h | h
        · subst h; simp at hne
        · exact h
      obtain ⟨b, off, spot⟩ := p
      have h00 := (hx 0 (by omega)).1
      have hspot : spot = none := by simpa [Addr.add] using World.cell?_spot h00
      subst hspot
      refine ⟨b, off, rfl, ?_, fun i r hi => ?_⟩
      · have := World.block_lt_of_cell? W _ h00
        simpa [Addr.add] using this
      · obtain ⟨hi1, hi2⟩ := List.getElem?_eq_some_iff.1 hi
        simp at hi1 hi2
        obtain ⟨g0, g1, g2, g3, g4, g5, g6⟩ := hx i (by omega)
        rw [add_at] at g0
        have hr : r.length = Ln i := by rw [← hi2, List.length_take]; omega
        refine ⟨_, g0, ⟨A i, C i, by rw [hr], fun hne' => ?_⟩, A i, C i, by rw [hr], by rw [hr]; exact g1, g5⟩
        have hL : 0 < Ln i := by
          rcases Nat.eq_zero_or_pos (Ln i) with h | h
          · rw [h] at hr; exact absurd (List.eq_nil_of_length_eq_zero hr) hne'
          · exact h
        cases hA : A i with
        | none => have := g5 hA; omega
        | some a' =>
          obtain ⟨_, hc⟩ := g6 a' hA
          obtain ⟨b', off', spot'⟩ := a'
          have hspot : spot' = none := by simpa [Addr.add] using World.cell?_spot (hc 0 (by omega))
          subst hspot
          refine ⟨b', off', rfl, fun j hj => ?_⟩
          have h1 := hc j (by omega)
          rw [add_at] at h1
          rw [h1, ← hi2, List.getElem?_take_of_lt (by omega)]
          rfl
    · intro r hr
      obtain ⟨i, hi, rfl⟩ := List.mem_map.1 hr
      have := List.mem_range.1 hi
      obtain ⟨g0, g1, g2, g3, g4, g5, g6⟩ := hx i (by omega)
      exact ⟨by rw [List.length_take]; omega, fun n hn => byte_bd (g4 n (List.mem_of_mem_take hn))⟩
end
end Go.Proofs.YtmmgebiojpnhcaaDoor.Open
