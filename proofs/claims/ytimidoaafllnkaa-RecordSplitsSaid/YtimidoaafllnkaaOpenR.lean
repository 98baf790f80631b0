/-
  Opened arguments: rows of rows of bytes; the reference's comparison of them.
-/
import Derived.Test.YtimidoaafllnkaaOpenE
import Derived.Test.YtimidoaafllnkaaRefA
import Derived.Test.YtimidoaafllnkaaAsA
namespace Go.Proofs.Ytimidoaafllnkaa.Open
open Go.ChangeShapes Go.WideShapes Go.ChangeAt Go.RowKit Go.Joins Go.Deep Base Iac
set_option linter.unusedVariables false

section
variable {H : Type} {enc : TypeId × Value → H} {W : World} {base fuel : Nat} {held : Bool} {x : DataW H × List MemPlace} {a : Option Addr} {len cap : Nat}
theorem byterows_open (h : DataW.trod enc Try.prog W base (fun _ => true) held fuel 65 (Value.cells (.slice a len cap)).toList = some x) :
    ∃ L : List (List Int), Rows8 W (.slice a len cap) L ∧ L.length ≤ maxLen ∧ ∀ r ∈ L, r.length ≤ maxLen ∧ ∀ n ∈ r, Byte n := by
  rcases open_int_rows Try.underlying65 Try.underlying24 Try.underlying5 (by kernel_rfl) (by kernel_rfl) h with ⟨hcs, _⟩ | ⟨p, l, c, A, Ln, C, Z, hcs, _, hl, hm, _, hx⟩
  · simp [Value.cells] at hcs
    obtain ⟨rfl, rfl, rfl⟩ := hcs
    exact ⟨[], ⟨none, 0, rfl, fun h => absurd rfl h⟩, by simp [maxLen], fun _ h => absurd h (by simp)⟩
  · simp [Value.cells] at hcs
    obtain ⟨rfl, rfl, rfl⟩ := hcs
    have hlen : ((List.range len).map fun r => (Z r).take (Ln r)).length = len := by simp
    refine ⟨(List.range len).map fun r => (Z r).take (Ln r), ⟨some p, cap, by rw [hlen], fun hne => ?_⟩, by rw [hlen]; omega, ?_⟩
    · have h0 : 0 < len := by
        rcases Nat.eq_zero_or_pos len with h | h
        · subst h; simp at hne
        · exact h
      obtain ⟨b, off, spot⟩ := p
      have h00 := (hx 0 (by omega)).1
      have hspot : spot = none := by simpa [Addr.add] using World.cell?_spot h00
      subst hspot
      refine ⟨b, off, rfl, ?_, fun i r hi => ?_⟩
      · have := World.block_lt_of_cell? W _ h00
        simpa [Addr.add] using this
      · obtain ⟨hi1, hi2⟩ := List.getElem?_eq_some_iff.1 hi
        simp at hi1 hi2
        obtain ⟨g0, g1, g2, g3, g4, g5, g6⟩ := hx i (by omega)
        rw [add_at] at g0
        have hr : r.length = Ln i := by rw [← hi2, List.length_take]; omega
        refine ⟨_, g0, ⟨A i, C i, by rw [hr], fun hne' => ?_⟩⟩
        have hL : 0 < Ln i := by
          rcases Nat.eq_zero_or_pos (Ln i) with h | h
          · rw [h] at hr; exact absurd (List.eq_nil_of_length_eq_zero hr) hne'
          · exact h
        cases hA : A i with
        | none => have := g5 hA; omega
        | some a' =>
          obtain ⟨_, hc⟩ := g6 a' hA
          obtain ⟨b', off', spot'⟩ := a'
          have hspot : spot' = none := by simpa [Addr.add] using World.cell?_spot (hc 0 (by omega))
          subst hspot
          refine ⟨b', off', rfl, fun j hj => ?_⟩
          have h1 := hc j (by omega)
          rw [add_at] at h1
          rw [h1, ← hi2, List.getElem?_take_of_lt (by omega)]
          rfl
    · intro r hr
      obtain ⟨i, hi, rfl⟩ := List.mem_map.1 hr
      have := List.mem_range.1 hi
      obtain ⟨g0, g1, g2, g3, g4, g5, g6⟩ := hx i (by omega)
      exact ⟨by rw [List.length_take]; omega, fun n hn => byte_bd (g4 n (List.mem_of_mem_take hn))⟩
end
end Go.Proofs.Ytimidoaafllnkaa.Open
namespace Go.Proofs.Ytimidoaafllnkaa.Iac
open Go.RowKit Base
theorem Rows8.below {w w' : World} {v : Value} {X : List (List Int)} (h : Rows8 w v X) (t : Below w.heap.size w w') : Rows8 w' v X := by
  obtain ⟨a, cap, rfl, hr⟩ := h
  refine ⟨a, cap, rfl, fun hne => ?_⟩
  obtain ⟨g, off, rfl, hg, hc⟩ := hr hne
  refine ⟨g, off, rfl, Nat.lt_of_lt_of_le hg t.size, fun i r hi => ?_⟩
  obtain ⟨u, hu, hru⟩ := hc i r hi
  exact ⟨u, (t.cell (p := ⟨g, _, none⟩) hg).trans hu, hru.below t⟩
set_option maxRecDepth 100000 in
set_option maxHeartbeats 2000000 in
/-- The same rows are the same. -/
theorem sameAll_true (u v : Value) (X : List (List Int)) (w : World) (hu : Rows8 w u X) (hv : Rows8 w v X) (hm : X.length ≤ 100000) (hb : ∀ r ∈ X, r.length ≤ 1000000) :
    Calls Try.prog 58 #[u, v] w fun e w' => e = .returned (.bool true) ∧ ∃ n, w' = w.drewN n := by
  obtain ⟨a, cap, rfl, hra⟩ := hu
  obtain ⟨b, cap', rfl, hrb⟩ := hv
  obtain ⟨n, hn⟩ : ∃ n, n = X.length := ⟨_, rfl⟩
  rw [← hn] at hm ⊢
  have HN := Lib.hid hn
  have HA := Lib.hid hra
  have HB := Lib.hid hrb
  have HBD := Lib.hid hb
  clear hn hra hrb hb
  go_enter Try.func58, Try.ntmps58
  go_wp2_with fail
  go_loopw [5] (fun i wr => ∃ k j : Nat, k ≤ n ∧ i = .int .i64 k ∧ wr = w.drewN j) (fun i _ => n - (intOf i).toNat)
  case atStart => exact ⟨0, 0, by omega, rfl, rfl⟩
  case round =>
    obtain ⟨k, j, hk, rfl, hwr⟩ := hrel
    by_cases hkn : k < n
    · have hkl : k < X.length := by rw [← HN.out]; exact hkn
      have hne : X ≠ [] := by intro e; rw [e] at hkl; simp at hkl
      obtain ⟨g, off, rfl, _, hca⟩ := HA.out hne
      obtain ⟨g', off', rfl, _, hcb⟩ := HB.out hne
      obtain ⟨q, hq⟩ : ∃ q, X[k]? = some q := ⟨_, List.getElem?_eq_getElem hkl⟩
      obtain ⟨x, a0, hx⟩ := hca k q hq
      obtain ⟨y, b0, hy⟩ := hcb k q hq
      have hdr : ∀ p, wr.cell? p = w.cell? p := fun p => by rw [hwr]; rfl
      have a0 := (hdr _).trans a0
      have b0 := (hdr _).trans b0
      have hx' : RowOf .u8 wr x q := hx.kept fun _ _ _ h => (hdr _).trans h
      have hy' : RowOf .u8 wr y q := hy.kept fun _ _ _ h => (hdr _).trans h
      have hl : q.length ≤ maxLen := by have := HBD.out q (List.mem_of_getElem? hq); unfold maxLen; omega
      have HX := Lib.hid hx'
      have HY := Lib.hid hy'
      have HL := Lib.hid hl
      have HW := Lib.hid hwr
      have ik : (0 : Int) ≤ (k : Int) := Int.natCast_nonneg _
      have ikn : (k : Int) < (n : Int) := by omega
      clear hca hcb hq hx hy hx' hy' hl hdr hwr hkl hne
      go_wp2_with fail
      go_quiet (first | (go_at_call 11; exact same_at HX.out HY.out HL.out))
      go_wp2_with fail
      go_roundw
      case rel => exact ⟨k + 1, j + nq, by omega, by go_num, by rw [HW.out, World.drewN_drewN]⟩
      case measure => simp [intOf]; omega
    · obtain rfl : n = k := by omega
      have HW := Lib.hid hwr
      clear hwr
      go_wp2_with fail
      go_ret
      exact ⟨rfl, j, HW.out⟩
end Go.Proofs.Ytimidoaafllnkaa.Iac
