/-
  A counter in memory: the contracts of Index, remove, Got, Pending and Next.
-/
import Derived.Test.YtkolhjglehnigaaHeadA
import Derived.Laws.CopyOwn
namespace Go.Proofs.Ytkolhjglehnigaa.Head
open Go.RowKit Base
set_option linter.unusedVariables false

structure CntC (A : Array Value) (nx : Int) (P : List Int) : Prop where
  size : A.size = 66
  nx : A[0]? = some (.int .u16 nx)
  cells : ∀ i, i < 64 → ∃ x : Int, A[1 + i]? = some (.int .u16 x)
  got : ∀ i, i < P.length → A[1 + i]? = some (.int .u16 (P[i]?.getD 0))
  many : A[65]? = some (.int .i64 P.length)
  le : P.length ≤ 64
section
variable {A : Array Value} {nx : Int} {P : List Int}
theorem CntC.setNext (h : CntC A nx P) (n : Int) : CntC (A.setIfInBounds 0 (.int .u16 n)) n P := by
  have hs := h.size
  refine ⟨by simpa using hs, ?_, fun i hi => ?_, fun i hi => ?_, ?_, h.le⟩
  · rw [Array.getElem?_setIfInBounds, if_pos rfl, if_pos (by omega)]
  · rw [Array.getElem?_setIfInBounds, if_neg (by omega)]; exact h.cells i hi
  · rw [Array.getElem?_setIfInBounds, if_neg (by omega)]; exact h.got i hi
  · rw [Array.getElem?_setIfInBounds, if_neg (by omega)]; exact h.many
theorem CntC.push (h : CntC A nx P) (x : Int) (hl : P.length < 64) : CntC ((A.setIfInBounds (1 + P.length) (.int .u16 x)).setIfInBounds 65 (.int .i64 ((P.length : Int) + 1))) nx (P ++ [x]) := by
  have hs := h.size
  have hs' : (A.setIfInBounds (1 + P.length) (.int .u16 x)).size = 66 := by simpa using hs
  refine ⟨by simpa using hs, ?_, fun i hi => ?_, fun i hi => ?_, ?_, by simp; omega⟩
  · rw [Array.getElem?_setIfInBounds, if_neg (by omega), Array.getElem?_setIfInBounds, if_neg (by omega)]; exact h.nx
  · rw [Array.getElem?_setIfInBounds, if_neg (by omega), Array.getElem?_setIfInBounds]
    by_cases e : 1 + P.length = 1 + i
    · rw [if_pos e, if_pos (by omega)]; exact ⟨_, rfl⟩
    · rw [if_neg e]; exact h.cells i hi
  · have hi' : i < P.length + 1 := by simpa using hi
    rw [Array.getElem?_setIfInBounds, if_neg (by omega), Array.getElem?_setIfInBounds]
    by_cases e : 1 + P.length = 1 + i
    · rw [if_pos e, if_pos (by omega)]
      obtain rfl : i = P.length := by omega
      simp
    · rw [if_neg e, h.got i (by omega), List.getElem?_append_left (by omega)]
  · rw [Array.getElem?_setIfInBounds, if_pos rfl, if_pos (by omega)]; simp
/-- The cells moved one place back, from a place on. -/
theorem moved_size (h : CntC A nx P) (k : Nat) (hk : k < P.length) : (splice A.toList (1 + k) ((P.drop (k + 1)).map (Value.int .u16))).toArray.size = 66 := by
  have hs := h.size
  have hle := h.le
  have hcl : ((P.drop (k + 1)).map (Value.int .u16)).length = P.length - (k + 1) := by rw [List.length_map, List.length_drop]
  have hfit : 1 + k + ((P.drop (k + 1)).map (Value.int .u16)).length ≤ A.toList.length := by rw [hcl]; simp; omega
  rw [List.size_toArray, length_splice _ _ _ hfit]; simpa using hs
theorem moved_get (h : CntC A nx P) (k : Nat) (hk : k < P.length) (j : Nat) : (splice A.toList (1 + k) ((P.drop (k + 1)).map (Value.int .u16))).toArray[j]? = if 1 + k ≤ j ∧ j < P.length then some (.int .u16 (P[j]?.getD 0)) else A[j]? := by
  have hs := h.size
  have hle := h.le
  have hcl : ((P.drop (k + 1)).map (Value.int .u16)).length = P.length - (k + 1) := by rw [List.length_map, List.length_drop]
  rw [List.getElem?_toArray, splice]
  have htk : (A.toList.take (1 + k)).length = 1 + k := by rw [List.length_take]; simp; omega
  by_cases h1 : j < 1 + k
  · rw [List.getElem?_append_left (by omega), List.getElem?_take_of_lt h1, if_neg (by omega)]; simp
  · rw [List.getElem?_append_right (by omega), htk]
    by_cases h2 : j < P.length
    · rw [List.getElem?_append_left (by omega), if_pos ⟨by omega, h2⟩, List.getElem?_map, List.getElem?_drop, show k + 1 + (j - (1 + k)) = j by omega]
      simp [h2]
    · rw [List.getElem?_append_right (by omega), if_neg (by omega), List.getElem?_drop, hcl]
      rw [show 1 + k + (P.length - (k + 1)) + (j - (1 + k) - (P.length - (k + 1))) = j by omega]
      simp
theorem CntC.moved (h : CntC A nx P) (k : Nat) (hk : k < P.length) (x : Value) (hx : x = .int .i64 ((P.length : Int) - 1)) :
    CntC ((splice A.toList (1 + k) ((P.drop (k + 1)).map (Value.int .u16))).toArray.setIfInBounds 65 x) nx (P.eraseIdx k) := by
  have hs := h.size
  have hle := h.le
  have hsz := moved_size h k hk
  have hget := moved_get h k hk
  have hel : (P.eraseIdx k).length = P.length - 1 := by rw [List.length_eraseIdx, if_pos hk]
  refine ⟨by simpa using hsz, ?_, fun i hi => ?_, fun i hi => ?_, ?_, by rw [hel]; omega⟩
  · rw [Array.getElem?_setIfInBounds, if_neg (by omega), hget, if_neg (by omega)]; exact h.nx
  · rw [Array.getElem?_setIfInBounds, if_neg (by omega), hget]
    split
    · exact ⟨_, rfl⟩
    · exact h.cells i hi
  · rw [Array.getElem?_setIfInBounds, if_neg (by omega), hget]
    rw [List.getElem?_eraseIdx]
    by_cases e : i < k
    · rw [if_neg (by omega), if_pos e]; exact h.got i (by omega)
    · rw [if_neg e]
      by_cases e2 : 1 + i < P.length
      · rw [if_pos (by omega), show 1 + i = i + 1 by omega]
      · omega
  · rw [Array.getElem?_setIfInBounds, if_pos rfl, if_pos (by omega), hx, hel]
    congr 2
    omega
variable {w w' : World} {b : Nat}
end
/-- The first place of a number. -/
def idxL (P : List Int) (x : Int) : Int := if x ∈ P then (P.idxOf x : Int) else -1
theorem idx_here (P : List Int) (x : Int) (k : Nat) (hk : k < P.length) (hno : x ∉ P.take k) (hx : x = P[k]?.getD 0) : idxL P x = k := by
  have e : P[k] = x := by rw [hx]; simp [hk]
  have hm : x ∈ P := by rw [← e]; exact List.getElem_mem hk
  have hsplit : P = P.take k ++ x :: P.drop (k + 1) := by rw [← e, List.getElem_cons_drop, List.take_append_drop]
  unfold idxL
  rw [if_pos hm]
  have : P.idxOf x = k := by
    rw [hsplit, List.idxOf_append, if_neg hno, List.idxOf_cons_self, List.length_take]
    omega
  rw [this]
theorem turn_setRow (w : World) (b : Nat) (cs : Array Value) : Turn (At b) w (w.setRow b cs) :=
  ⟨rfl, rfl, rfl, by simp [World.setRow], fun k _ hS => setRow_other w b k cs fun e => hS e⟩
theorem idx_yes (P : List Int) (x : Int) (h : x ∈ P) : ∃ k, k < P.length ∧ idxL P x = (k : Int) ∧ P.eraseIdx k = P.erase x := by
  refine ⟨P.idxOf x, List.idxOf_lt_length_iff.2 h, by unfold idxL; rw [if_pos h], ?_⟩
  rw [List.erase_eq_eraseIdx_of_idxOf rfl]
theorem Turn.drew1 (b : Nat) (w : World) (n : Nat) : Turn (At b) w (w.drewN n) := ⟨rfl, rfl, rfl, Nat.le_refl _, fun _ _ _ => rfl⟩
/-- Those that wait behind a number that is given. -/
def giveP (P : List Int) (n : Int) : List Int := (if (P.erase n).length = 64 then (P.erase n).eraseIdx 0 else P.erase n) ++ [n]
end Go.Proofs.Ytkolhjglehnigaa.Head
