/-
  Contracts of bytesBySign and Byte of package code.
-/
import Derived.Test.YtgjhboikfbafcaaCodeB
import Derived.Maps.OwnSet
namespace Go.Proofs.Ytgjhboikfbafcaa.Code
open Go.RowKit Go.Maps
set_option linter.unusedVariables false

/-! ### The page the other way round -/
def mapOf (L : List Int) : Nat → DataW Unit
  | 0 => .map []
  | k + 1 => (mapOf L k).put (.int .i32 (L[k]?.getD 0)) (.lit (.int .u8 k))
theorem mapOf_isMap (L : List Int) : ∀ k, IsMap (mapOf L k)
  | 0 => isMap_empty
  | k + 1 => (mapOf_isMap L k).put _ _
theorem key_i32 (r : Int) : WideAt.IsKeyLit (.int .i32 r) := by simp [WideAt.IsKeyLit]
theorem mapOf_at (L : List Int) (hd : L.Nodup) (r : Int) (z : DataW Unit) : ∀ k, k ≤ L.length → (mapOf L k).atKey (.int .i32 r) z = if L.idxOf r < k then .lit (.int .u8 (L.idxOf r)) else z
  | 0, _ => by simp [mapOf, DataW.atKey]
  | k + 1, hk => by
    have ih := mapOf_at L hd r z k (by omega)
    have hget : L[k]?.getD 0 = L[k] := by simp [show k < L.length by omega]
    unfold mapOf
    rw [hget]
    by_cases e : r = L[k]
    · subst e
      rw [atKey_put_same (mapOf_isMap L k) (key_i32 _), List.Nodup.idxOf_getElem hd, if_pos (by omega)]
    · rw [atKey_put_other (by intro h; cases h; exact e rfl), ih]
      have hne : L.idxOf r ≠ k := by
        intro h
        apply e
        have h2 : L.idxOf r < L.length := by omega
        have h3 := List.getElem_idxOf h2
        simp only [h] at h3
        exact h3.symm
      by_cases hlt : L.idxOf r < k
      · rw [if_pos hlt, if_pos (by omega)]
      · rw [if_neg hlt, if_neg (by omega)]
theorem mapOf_has (L : List Int) (hd : L.Nodup) (r : Int) (k : Nat) (hk : k ≤ L.length) : has (mapOf L k) (.int .i32 r) = decide (L.idxOf r < k) := by
  by_cases h : L.idxOf r < k
  · rw [decide_eq_true h]
    exact has_true_of_atKey (y := .lit (.int .u8 (L.idxOf r))) (fun z => by rw [mapOf_at L hd r z k hk, if_pos h])
  · rw [decide_eq_false h]
    exact has_false_of_atKey (fun z => by rw [mapOf_at L hd r z k hk, if_neg h])
theorem p37_nodup : p37.Nodup := by
  have : (decide p37.Nodup) = true := by kernel_rfl
  exact of_decide_eq_true this
theorem p500_nodup : p500.Nodup := by
  have : (decide p500.Nodup) = true := by kernel_rfl
  exact of_decide_eq_true this
theorem p1047_nodup : p1047.Nodup := by
  have : (decide p1047.Nodup) = true := by kernel_rfl
  exact of_decide_eq_true this
theorem tabl_nodup (page : Int) : (tabl page).Nodup := by
  unfold tabl
  split
  · exact p500_nodup
  · split
    · exact p1047_nodup
    · exact p37_nodup

theorem run_index_tab (L : List Int) (hL : L.length = 256) (k : Nat) (hk : k < 256) (w : World) : (Instr.index 163 (.agg (tab L)) (.int .i64 (k : Int))).run Try.prog w = .ok (.int .i32 (L[k]?.getD 0)) w := by
  have a3 := Try.isAgg21
  have z3 := Try.sizeOf21
  have hg := tab_get L k (by omega)
  have h0 : (0 : Int) ≤ (k : Int) ∧ (k : Int) < 256 := by omega
  simp [Instr.index, run_underlying Try.underlying163, asIntOf, h0, go_sem, hg]
  intro h; omega

theorem zero_u8 (w : World) : (zeroValue 5).run Try.prog w = .ok (.int .u8 0) w := by kernel_rfl

def MapMade (w : World) (L : List Int) (e : Ending) (w' : World) : Prop :=
  ∃ B, e = .returned (.map (some B)) ∧ w'.ownsMap Try.prog 21 (plainElem Try.prog 5) B 256 (mapOf L 256) ∧ w.heap.size ≤ B ∧ Below w.heap.size w w'
theorem wf_i32 {x : Int} (h : 0 ≤ x ∧ x ≤ 255) : (Lit.int .i32 x).wf = true := WalkArith.wf_i32 (by omega)
theorem wf_u8 {x : Int} (h : 0 ≤ x ∧ x ≤ 255) : (Lit.int .u8 x).wf = true := by simp [Lit.wf, IntKind.min, IntKind.max, IntKind.bits, IntKind.signed]; omega

/-! ### Byte -/
/-- The byte of a sign (0, if none has it); is there one? -/
def byt (page r : Int) : Int := if (tabl page).idxOf r < 256 then ((tabl page).idxOf r : Nat) else 0
def hasb (page r : Int) : Bool := decide ((tabl page).idxOf r < 256)
theorem byt_bd (page r : Int) : 0 ≤ byt page r ∧ byt page r ≤ 255 := by
  unfold byt; split <;> omega
theorem hasb_far (page r : Int) (h : r < 0 ∨ 255 < r) : hasb page r = false ∧ byt page r = 0 := by
  have hm : r ∉ tabl page := fun hm => by have := tabl_bd page r hm; omega
  have h2 : ¬ (tabl page).idxOf r < 256 := by
    rw [← tabl_length page, List.idxOf_lt_length_iff]; exact hm
  exact ⟨decide_eq_false h2, by unfold byt; rw [if_neg h2]⟩
theorem ret_byte {a a' : Int} {b b' : Bool} (h : a' = a ∧ b' = b) : Ending.returned (.tuple #[.int .u8 a, .bool b]) = .returned (.tuple #[.int .u8 a', .bool b']) := by
  obtain ⟨rfl, rfl⟩ := h; rfl

end Go.Proofs.Ytgjhboikfbafcaa.Code
