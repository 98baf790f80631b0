/-
  A clock in memory: its time, its alarms in their order, its spare cells.
-/
import Derived.Test.YtndhhpiklaffoaaMailD
import Derived.ArgAppend
namespace Go.Proofs.Ytndhhpiklaffoaa.Clock
open Go.RowKit
set_option linter.unusedVariables false
open Mail (Turn)

/-- The cell j of a clock. -/
def cellOf (now : Int) (M : Nat → Int × Int) (k : Int) (j : Nat) : Value :=
  .int .i64 (if j = 0 then now else if j = 129 then k else if j % 2 = 1 then (M (j / 2)).1 else (M (j / 2 - 1)).2)
def clk (now : Int) (M : Nat → Int × Int) (k : Int) : Array Value := Array.ofFn fun j : Fin 130 => cellOf now M k j.val
theorem clk_size (now : Int) (M : Nat → Int × Int) (k : Int) : (clk now M k).size = 130 := by simp [clk]
theorem clk_get (now : Int) (M : Nat → Int × Int) (k : Int) (j : Nat) (h : j < 130) : (clk now M k)[j]? = some (cellOf now M k j) := by
  simp [clk, h]
theorem clk_all (now : Int) (M : Nat → Int × Int) (k : Int) : (clk now M k).all (·.oneCell') = true := by
  rw [Array.all_eq_true]
  intro i hi
  simp [clk, cellOf, Value.oneCell']
theorem cellOf_due (now : Int) (M : Nat → Int × Int) (k : Int) (i : Nat) (h : i < 64) : cellOf now M k (1 + i * 2) = .int .i64 (M i).1 := by
  unfold cellOf
  rw [if_neg (by omega), if_neg (by omega), if_pos (by omega), show (1 + i * 2) / 2 = i by omega]
theorem cellOf_id (now : Int) (M : Nat → Int × Int) (k : Int) (i : Nat) (h : i < 64) : cellOf now M k (1 + i * 2 + 1) = .int .i64 (M i).2 := by
  unfold cellOf
  rw [if_neg (by omega), if_neg (by omega), if_neg (by omega), show (1 + i * 2 + 1) / 2 - 1 = i by omega]
theorem clk_at (now : Int) (M : Nat → Int × Int) (k : Int) (j : Nat) : (clk now M k)[j]? = if j < 130 then some (cellOf now M k j) else none := by
  by_cases h : j < 130
  · rw [if_pos h, clk_get _ _ _ _ h]
  · rw [if_neg h]; simp [clk_size]; omega
theorem clk_now (now x : Int) (M : Nat → Int × Int) (k : Int) : (clk now M k).setIfInBounds 0 (.int .i64 x) = clk x M k := by
  apply Array.ext_getElem?
  intro j
  rw [Array.getElem?_setIfInBounds, clk_at, clk_at, clk_size]
  by_cases e : 0 = j
  · subst e; simp [cellOf]
  · rw [if_neg e]
    by_cases h : j < 130
    · have z : ¬ j = 0 := by omega
      rw [if_pos h, if_pos h]; simp only [cellOf, if_neg z]
    · rw [if_neg h, if_neg h]
theorem clk_many (now x : Int) (M : Nat → Int × Int) (k : Int) : (clk now M k).setIfInBounds 129 (.int .i64 x) = clk now M x := by
  apply Array.ext_getElem?
  intro j
  rw [Array.getElem?_setIfInBounds, clk_at, clk_at, clk_size]
  by_cases e : 129 = j
  · subst e; simp [cellOf]
  · rw [if_neg e]
    by_cases h : j < 130
    · have z : ¬ j = 129 := by omega
      rw [if_pos h, if_pos h]; simp only [cellOf, if_neg z]
    · rw [if_neg h, if_neg h]
/-- A clock's spare cells with one alarm laid in place i. -/
def set1 (M : Nat → Int × Int) (i : Nat) (p : Int × Int) : Nat → Int × Int := fun j => if j = i then p else M j
theorem clk_set (now : Int) (M : Nat → Int × Int) (k : Int) (i : Nat) (p : Int × Int) (h : i < 64) :
    ((clk now M k).setIfInBounds (1 + i * 2) (.int .i64 p.1)).setIfInBounds (1 + i * 2 + 1) (.int .i64 p.2) = clk now (set1 M i p) k := by
  apply Array.ext_getElem?
  intro j
  rw [Array.getElem?_setIfInBounds, Array.getElem?_setIfInBounds, clk_at, clk_at, Array.size_setIfInBounds, clk_size]
  by_cases e2 : 1 + i * 2 + 1 = j
  · subst e2
    rw [if_pos rfl, if_pos (by omega), if_pos (by omega), cellOf_id _ _ _ _ h]
    simp [set1]
  · rw [if_neg e2]
    by_cases e : 1 + i * 2 = j
    · subst e
      rw [if_pos rfl, if_pos (by omega), if_pos (by omega), cellOf_due _ _ _ _ h]
      simp [set1]
    · rw [if_neg e]
      by_cases hj : j < 130
      · rw [if_pos hj, if_pos hj]
        simp only [cellOf, set1]
        by_cases z : j = 0
        · rw [if_pos z, if_pos z]
        · rw [if_neg z, if_neg z]
          by_cases z2 : j = 129
          · rw [if_pos z2, if_pos z2]
          · rw [if_neg z2, if_neg z2]
            by_cases z3 : j % 2 = 1
            · rw [if_pos z3, if_pos z3, if_neg (by omega)]
            · rw [if_neg z3, if_neg z3, if_neg (by omega)]
      · rw [if_neg hj, if_neg hj]
/-- .. with several alarms, from place i on. -/
def setL (M : Nat → Int × Int) : Nat → List (Int × Int) → Nat → Int × Int
  | _, [] => M
  | i, p :: ps => setL (set1 M i p) (i + 1) ps
theorem setL_get (ps : List (Int × Int)) : ∀ (M : Nat → Int × Int) (i j : Nat), setL M i ps j = if i ≤ j ∧ j < i + ps.length then ps.getD (j - i) (0, 0) else M j := by
  induction ps with
  | nil => intro M i j; simp [setL]; omega
  | cons p ps ih =>
    intro M i j
    rw [setL, ih]
    by_cases h : i + 1 ≤ j ∧ j < i + 1 + ps.length
    · rw [if_pos h, if_pos (by simp; omega), show j - i = (j - (i + 1)) + 1 by omega]
      simp
    · rw [if_neg h]
      unfold set1
      by_cases e : j = i
      · subst e; simp
      · rw [if_neg e, if_neg (by simp; omega)]

/-- The cells of alarms. -/
def flat (ps : List (Int × Int)) : List Value := ps.flatMap fun p => [.int .i64 p.1, .int .i64 p.2]
theorem flat_length (ps : List (Int × Int)) : (flat ps).length = ps.length * 2 := by
  induction ps with
  | nil => rfl
  | cons p ps ih => simp [flat, List.flatMap_cons] at ih ⊢; omega
theorem flat_one (ps : List (Int × Int)) : ∀ v ∈ flat ps, v.oneCell' = true := by
  intro v hv
  obtain ⟨p, _, h⟩ := List.mem_flatMap.1 hv
  simp at h
  rcases h with rfl | rfl <;> rfl
theorem flat_get (ps : List (Int × Int)) : ∀ (j : Nat) (v : Value), (flat ps)[j]? = some v → v = .int .i64 (if j % 2 = 0 then (ps.getD (j / 2) (0, 0)).1 else (ps.getD (j / 2) (0, 0)).2) := by
  induction ps with
  | nil => intro j v h; simp [flat] at h
  | cons p ps ih =>
    intro j v h
    match j with
    | 0 => simp [flat] at h; simp [← h]
    | 1 => simp [flat] at h; simp [← h]
    | j + 2 =>
      have h' : (flat ps)[j]? = some v := by simpa [flat] using h
      rw [ih j v h']
      rw [show (j + 2) % 2 = j % 2 by omega, show (j + 2) / 2 = j / 2 + 1 by omega]
      simp

/-! ### The block -/
theorem heap_set {w : World} {b : Nat} {cur : Array Value} {t : TypeId} (h : w.heap[b]? = some (.cells cur t (0, 0))) (o : Nat) (u : Value) : (w.setCell ⟨b, o, none⟩ u).heap[b]? = some (.cells (cur.setIfInBounds o u) t (0, 0)) := by
  have hlt := lt_of_block h
  have h' : w.heap[b] = .cells cur t (0, 0) := by simpa [Array.getElem?_eq_getElem hlt] using h
  show (w.heap.modify b _)[b]? = _
  rw [Array.getElem?_eq_getElem (by simpa using hlt), Array.getElem_modify_self, h']
  simp
theorem heap_setFlat {b : Nat} {now k : Int} (ps : List (Int × Int)) : ∀ (w : World) (M : Nat → Int × Int) (i : Nat), w.heap[b]? = some (.cells (clk now M k) 57 (0, 0)) → i + ps.length ≤ 64 →
    (w.setCells b (1 + i * 2) (flat ps)).heap[b]? = some (.cells (clk now (setL M i ps) k) 57 (0, 0)) := by
  induction ps with
  | nil => intro w M i h _; exact h
  | cons p ps ih =>
    intro w M i h hl
    simp at hl
    have h1 := heap_set (heap_set h (1 + i * 2) (.int .i64 p.1)) (1 + i * 2 + 1) (.int .i64 p.2)
    rw [clk_set now M k i p (by omega)] at h1
    have := ih _ _ (i + 1) h1 (by omega)
    rw [show 1 + (i + 1) * 2 = 1 + i * 2 + 1 + 1 by omega] at this
    exact this

/-- A clock lies in block b: its time, its alarms in their order. -/
def ClockAt (w : World) (b : Nat) (now : Int) (L : List (Int × Int)) : Prop :=
  ∃ M, (∀ i, i < L.length → M i = L.getD i (0, 0)) ∧ L.length ≤ 64 ∧ w.heap[b]? = some (.cells (clk now M L.length) 57 (0, 0))
/-- All blocks but the clock's are as they were. -/
def At (b : Nat) (k : Nat) : Prop := k = b
section
variable {w w' : World} {b : Nat} {now : Int} {L : List (Int × Int)}
theorem ClockAt.lt (h : ClockAt w b now L) : b < w.heap.size := by obtain ⟨_, _, _, h⟩ := h; exact lt_of_block h
theorem ClockAt.le (h : ClockAt w b now L) : L.length ≤ 64 := by obtain ⟨_, _, h, _⟩ := h; exact h
theorem ClockAt.keep (h : ClockAt w b now L) (hk : w'.heap[b]? = w.heap[b]?) : ClockAt w' b now L := by
  obtain ⟨M, h1, h2, h3⟩ := h
  exact ⟨M, h1, h2, hk.trans h3⟩
theorem ClockAt.below (h : ClockAt w b now L) (u : Below w.heap.size w w') : ClockAt w' b now L := h.keep (u.block b h.lt)
theorem ClockAt.drewN (h : ClockAt w b now L) (n : Nat) : ClockAt (w.drewN n) b now L := h
theorem ClockAt.cellNow (h : ClockAt w b now L) : w.cell? ⟨b, 0, none⟩ = some (.int .i64 now) := by
  obtain ⟨M, _, _, h⟩ := h
  simp [World.cell?, h, clk_get, cellOf]
theorem ClockAt.cellMany (h : ClockAt w b now L) : w.cell? ⟨b, 129, none⟩ = some (.int .i64 L.length) := by
  obtain ⟨M, _, _, h⟩ := h
  simp [World.cell?, h, clk_get, cellOf]
theorem ClockAt.cellDue (h : ClockAt w b now L) (i : Nat) (hi : i < L.length) : w.cell? ⟨b, 1 + i * 2, none⟩ = some (.int .i64 (L.getD i (0, 0)).1) := by
  obtain ⟨M, hM, hl, h⟩ := h
  have := clk_get now M L.length (1 + i * 2) (by omega)
  rw [cellOf_due now M _ i (by omega), hM i hi] at this
  simpa [World.cell?, h] using this
theorem ClockAt.cellId (h : ClockAt w b now L) (i : Nat) (hi : i < L.length) : w.cell? ⟨b, 1 + i * 2 + 1, none⟩ = some (.int .i64 (L.getD i (0, 0)).2) := by
  obtain ⟨M, hM, hl, h⟩ := h
  have := clk_get now M L.length (1 + i * 2 + 1) (by omega)
  rw [cellOf_id now M _ i (by omega), hM i hi] at this
  simpa [World.cell?, h] using this
theorem ClockAt.frozen (h : ClockAt w b now L) (o : Nat) : w.frozen? ⟨b, o, none⟩ = false := by
  obtain ⟨M, _, _, h⟩ := h
  simp [World.frozen?, h]
theorem ClockAt.some (h : ClockAt w b now L) (o : Nat) (ho : o < 130) : (w.cell? ⟨b, o, none⟩).isSome = true := by
  obtain ⟨M, _, _, h⟩ := h
  simp [World.cell?, h, clk_get _ _ _ _ ho]
end
theorem info_clock : (Try.prog.info? 57).map (fun i => (i.zero, i.size)) = some (some (.agg (clk 0 (fun _ => (0, 0)) 0)), 130) := by kernel_rfl
end Go.Proofs.Ytndhhpiklaffoaa.Clock
