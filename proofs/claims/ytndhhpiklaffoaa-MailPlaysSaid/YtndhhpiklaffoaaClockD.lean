/-
  Copying and clearing rows of alarms in a clock's own cells; the library's Delete; the clock's cut.
-/
import Derived.Test.YtndhhpiklaffoaaClockC
import Derived.Deep.RegionLaw
import Derived.Laws.IdiomCopy
import Derived.Lib.SliceRun
namespace Go.Proofs.Ytndhhpiklaffoaa.Clock
open Go.RowKit
open Mail (Turn ret_int ret_bool)
set_option linter.unusedVariables false

/-- A clock's block, cell by cell. -/
def Raw (w : World) (b : Nat) (now : Int) (M : Nat → Int × Int) (k : Int) : Prop := w.heap[b]? = some (.cells (clk now M k) 57 (0, 0))
section
variable {w w' : World} {b : Nat} {now k : Int} {M : Nat → Int × Int}
theorem Raw.cellDue (h : Raw w b now M k) (i : Nat) (hi : i < 64) : w.cell? ⟨b, 1 + i * 2, none⟩ = some (.int .i64 (M i).1) := by
  have := clk_get now M k (1 + i * 2) (by omega)
  rw [cellOf_due now M _ i hi] at this
  simpa [World.cell?, show w.heap[b]? = _ from h] using this
theorem Raw.cellId (h : Raw w b now M k) (i : Nat) (hi : i < 64) : w.cell? ⟨b, 1 + i * 2 + 1, none⟩ = some (.int .i64 (M i).2) := by
  have := clk_get now M k (1 + i * 2 + 1) (by omega)
  rw [cellOf_id now M _ i hi] at this
  simpa [World.cell?, show w.heap[b]? = _ from h] using this
theorem Raw.isSome (h : Raw w b now M k) (o : Nat) (ho : o < 130) : (w.cell? ⟨b, o, none⟩).isSome = true := by
  simp [World.cell?, show w.heap[b]? = _ from h, clk_get _ _ _ _ ho]
theorem Raw.frozen (h : Raw w b now M k) (o : Nat) : w.frozen? ⟨b, o, none⟩ = false := by
  simp [World.frozen?, show w.heap[b]? = _ from h]
theorem Raw.lt (h : Raw w b now M k) : b < w.heap.size := lt_of_block h
theorem Raw.keep (h : Raw w b now M k) (hk : w'.heap[b]? = w.heap[b]?) : Raw w' b now M k := hk.trans h
/-- The alarms from place i on, n of them. -/
def seg (M : Nat → Int × Int) (i n : Nat) : List (Int × Int) := (List.range n).map fun j => M (i + j)
theorem seg_length (M : Nat → Int × Int) (i n : Nat) : (seg M i n).length = n := by simp [seg]
theorem seg_get (M : Nat → Int × Int) (i n j : Nat) (h : j < n) : (seg M i n).getD j (0, 0) = M (i + j) := by simp [seg, List.getD, h]
theorem Raw.cells (h : Raw w b now M k) (i n : Nat) (hn : i + n ≤ 64) : ∀ j v, (flat (seg M i n))[j]? = some v → w.cell? ((⟨b, 1 + i * 2, none⟩ : Addr).add j) = some v := by
  intro j v hv
  have hj : j < n * 2 := by
    have := (List.getElem?_eq_some_iff.1 hv).1
    rw [flat_length, seg_length] at this
    exact this
  have hv' := flat_get _ _ _ hv
  have e : (Addr.mk b (1 + i * 2) none).add j = ⟨b, 1 + i * 2 + j, none⟩ := by unfold Addr.add; split <;> simp_all
  rw [e, hv', seg_get _ _ _ _ (by omega)]
  by_cases hp : j % 2 = 0
  · rw [if_pos hp, show 1 + i * 2 + j = 1 + (i + j / 2) * 2 by omega]
    exact h.cellDue _ (by omega)
  · rw [if_neg hp, show 1 + i * 2 + j = 1 + (i + j / 2) * 2 + 1 by omega]
    exact h.cellId _ (by omega)
theorem Raw.room (h : Raw w b now M k) (i : Nat) (ps : List (Int × Int)) (hn : i + ps.length ≤ 64) : ∀ j, j < (flat ps).length → (w.cell? ⟨b, 1 + i * 2 + j, none⟩).isSome = true := by
  intro j hj
  rw [flat_length] at hj
  exact h.isSome _ (by omega)
theorem Raw.setL (h : Raw w b now M k) (i : Nat) (ps : List (Int × Int)) (hn : i + ps.length ≤ 64) : Raw (w.setCells b (1 + i * 2) (flat ps)) b now (setL M i ps) k := heap_setFlat ps w M i h hn
theorem turn_setCells (w : World) (b : Nat) : ∀ (vs : List Value) (o : Nat), Turn (At b) w (w.setCells b o vs) := by
  intro vs
  induction vs generalizing w with
  | nil => intro o; exact Mail.Turn.refl _ _
  | cons v vs ih =>
    intro o
    have h1 : Turn (At b) w (w.setCell ⟨b, o, none⟩ v) := ⟨rfl, rfl, rfl, by simp, fun k hk hS => Below.heap_setCell _ _ _ _ (fun e => hS e)⟩
    exact h1.trans (ih _ _)
theorem size_setCells (w : World) (b : Nat) : ∀ (vs : List Value) (o : Nat), (w.setCells b o vs).heap.size = w.heap.size := by
  intro vs
  induction vs generalizing w with
  | nil => intro o; rfl
  | cons v vs ih => intro o; rw [World.setCells, ih]; simp
end
theorem info_alarm : (Try.prog.info? 54).map (fun i => (i.zero, i.size, i.bytes)) = some (some (.agg #[.int .i64 0, .int .i64 0]), 2, 16) := by kernel_rfl
theorem zeroAlarm (w : World) : (zeroValue 54).run Try.prog w = .ok (.agg #[.int .i64 0, .int .i64 0]) w := by kernel_rfl
/-- Copied within a clock. -/
theorem run_copy2 (w : World) (ty : TypeId) (b o dLen dCap : Nat) (a : Addr) (sLen sCap : Nat) (ps : List (Int × Int)) (hn : ps.length = Nat.min sLen dLen)
    (hsrc : ∀ j v, (flat ps)[j]? = some v → w.cell? (a.add j) = some v) (hc : ∀ j, j < (flat ps).length → (w.cell? ⟨b, o + j, none⟩).isSome = true) (hf : ∀ j, j < (flat ps).length → w.frozen? ⟨b, o + j, none⟩ = false) :
    (Builtin.copy_ #[103, 103] ty #[.slice (some ⟨b, o, none⟩) dLen dCap, .slice (some a) sLen sCap]).run Try.prog w = .ok (goInt ps.length) (w.setCells b o (flat ps)) := by
  obtain ⟨i, hi, hz, hsz, _⟩ := info_parts info_alarm
  have hl := run_loadCells_list (P := Try.prog) w a (flat ps) hsrc
  have hst := run_storeCells_cells (P := Try.prog) b o (flat ps) 0 w (by simpa using hc) (by simpa using hf) (flat_one ps)
  rw [flat_length] at hl
  simp only [Nat.add_zero] at hst
  simp [Builtin.copy_, run_underlying Try.underlying103, Builtin.lenOf, Builtin.firstCells, sizeOf, typeInfo, hi, hsz, ← hn, hl, hst]
theorem zeros_flat (n : Nat) : (Builtin.zeroCells #[.int .i64 0, .int .i64 0] n).toList = flat (List.replicate n (0, 0)) := by
  apply List.ext_getElem?
  intro j
  by_cases hj : j < n * 2
  · have h1 : (flat (List.replicate n ((0 : Int), (0 : Int))))[j]? = some (.int .i64 0) := by
      have hl : j < (flat (List.replicate n ((0 : Int), (0 : Int)))).length := by rw [flat_length, List.length_replicate]; exact hj
      have h2 := List.getElem?_eq_getElem hl
      have h3 := flat_get _ _ _ h2
      rw [h2, h3]
      have h4 : (List.replicate n ((0 : Int), (0 : Int))).getD (j / 2) (0, 0) = (0, 0) := by
        simp [List.getD, List.getElem?_replicate]
        split <;> rfl
      rw [h4]
      simp
    rw [h1]
    have h5 : j % 2 = 0 ∨ j % 2 = 1 := by omega
    rcases h5 with h5 | h5 <;> simp [Builtin.zeroCells, hj, h5]
  · rw [List.getElem?_eq_none (by simp [Builtin.zeroCells]; omega), List.getElem?_eq_none (by rw [flat_length, List.length_replicate]; omega)]
/-- Cleared within a clock. -/
theorem run_clear2 (w : World) (ty : TypeId) (b o n c : Nat) (hn : 0 < n) (hc : ∀ j, j < n * 2 → (w.cell? ⟨b, o + j, none⟩).isSome = true) (hf : ∀ j, j < n * 2 → w.frozen? ⟨b, o + j, none⟩ = false) :
    (Builtin.clear_ #[103] ty #[.slice (some ⟨b, o, none⟩) n c]).run Try.prog w = .ok (.tuple #[]) (w.setCells b o (flat (List.replicate n (0, 0)))) := by
  have hlen : (flat (List.replicate n ((0 : Int), (0 : Int)))).length = n * 2 := by rw [flat_length, List.length_replicate]
  have hst := run_storeCells_cells (P := Try.prog) b o (flat (List.replicate n (0, 0))) 0 w (by rw [hlen]; simpa using hc) (by rw [hlen]; simpa using hf) (flat_one _)
  simp only [Nat.add_zero] at hst
  obtain ⟨m, rfl⟩ : ∃ m, n = m + 1 := ⟨n - 1, by omega⟩
  simp [Builtin.clear_, run_underlying Try.underlying103, Value.cells, zeros_flat, hst]
end Go.Proofs.Ytndhhpiklaffoaa.Clock
