/-
  What a step of typing's laws keeps, plainly.
-/
import Derived.Test.YtlcjiffnmpkndaaTyM
import Derived.Test.YtlcjiffnmpkndaaTyO
namespace Go.Proofs.Ytlcjiffnmpkndaa.Pl
open Go.RowKit Go.Shelf Base
set_option linter.unusedVariables false
set_option linter.unusedSimpArgs false

theorem bo_fillT {M : List Cl} (h : BoL M) : ∀ (ps : List Int), BoL (fillL M ps c0) := by
  intro ps
  refine snoc_indI (P := fun ps => BoL (fillL M ps c0)) h (fun xs y ih => ?_) ps
  rw [fillL_snoc]
  exact bo_setT ih y (by decide)
theorem bo_restT {L : List Cl} (h : BoL L) (a : Int) : BoL (restL L a) := by
  unfold restL
  split
  · exact bo_fillT (bo_markT h a) _
  · exact h
theorem on_bd {L : List Cl} {a : Int} (h : 1 ≤ L.length) : 0 ≤ onL L a ∧ onL L a < L.length := by
  have hm : ∀ a : Int, 0 ≤ mv L.length a 1 ∧ mv L.length a 1 < L.length := fun a => mv_bd (by omega)
  unfold onL
  repeat' split
  all_goals first | exact tab_bd h | exact hm _
theorem put_cur {L : List Cl} {cur y : Int} {ins : Bool} (h : 0 ≤ cur ∧ cur < L.length) : 0 ≤ (putM L cur y ins).2.1 ∧ (putM L cur y ins).2.1 < L.length := by
  unfold putM
  split; exact h
  split; exact h
  split; exact h
  have hl : (ptL (rmL L cur ins) cur y).length = L.length := by rw [pt_len, rm_len]
  have := on_bd (L := ptL (rmL L cur ins) cur y) (a := cur) (by rw [hl]; omega)
  rw [hl] at this
  exact this
theorem str_cur {ins : Bool} : ∀ (ys : List Int) (L : List Cl) (cur : Int), 0 ≤ cur ∧ cur < L.length → 0 ≤ (strM ins ys L cur).2.1 ∧ (strM ins ys L cur).2.1 < L.length
  | [], L, cur, h => h
  | y :: ys, L, cur, h => by
    rw [strM_cons]
    split
    · have hl := put_len L cur y ins
      have := str_cur (ins := ins) ys (putM L cur y ins).1 (putM L cur y ins).2.1 (by rw [hl]; exact put_cur h)
      rw [hl] at this
      exact this
    · exact h
theorem dup_cur {L : List Cl} {cur : Int} {ins : Bool} (h : 0 ≤ cur ∧ cur < L.length) : 0 ≤ (dupM L cur ins).2.1 ∧ (dupM L cur ins).2.1 < L.length := by
  unfold dupM
  split
  · have hl := put_len L cur 28 ins
    have := tab_bd (L := (putM L cur 28 ins).1) (a := cur) (by rw [hl]; omega)
    rw [hl] at this
    exact this
  · exact put_cur h
section
variable {L : List Cl} {cur k a y : Int} {ys : List Int} {ins : Bool}
theorem kp_do : Kp L (doM L cur k a y ys ins).1 := by
  unfold doM
  repeat' split
  · exact kp_put _ _ _ _
  · exact kp_str _ _ _ _
  · exact kp_del _ _
  · exact kp_rest _ _
  · exact kp_dup _ _ _
  · exact kp_put _ _ _ _
  · exact Kp.refl L
  · exact Kp.refl L
theorem bo_do (h : BoL L) (hy : 0 ≤ y ∧ y ≤ 255) (hys : ∀ y ∈ ys, 0 ≤ y ∧ y ≤ 255) : BoL (doM L cur k a y ys ins).1 := by
  unfold doM
  repeat' split
  · exact bo_put h _ _ _ hy
  · exact (bo_str ys L cur hys h).1
  · exact bo_del h _
  · exact bo_restT h _
  · exact bo_dup h _ _
  · exact bo_put h _ _ _ (by decide)
  · exact h
  · exact h
theorem do_cur (h : 0 ≤ cur ∧ cur < L.length) : 0 ≤ (doM L cur k a y ys ins).2.1 ∧ (doM L cur k a y ys ins).2.1 < L.length := by
  have hd : (delM L cur).2.1 = cur := by unfold delM; split <;> rfl
  unfold doM
  repeat' split
  · exact put_cur h
  · exact str_cur _ _ _ h
  · show 0 ≤ (delM L cur).2.1 ∧ _; rw [hd]; exact h
  · exact h
  · exact dup_cur h
  · exact put_cur h
  · exact ⟨Int.emod_nonneg _ (by omega), Int.emod_lt_of_pos _ (by omega)⟩
  · exact h
theorem do_err (hk : k ≠ 4) (he : (doM L cur k a y ys ins).2.2.2 ≠ 0) : (doM L cur k a y ys ins).1 = L ∧ (doM L cur k a y ys ins).2.1 = cur := by
  unfold doM at he ⊢
  by_cases h1 : k = 0 ∨ k = 1 ∨ k = 2 ∨ k = 3
  · rw [if_pos h1] at he ⊢; exact put_err he
  rw [if_neg h1, if_neg hk] at he ⊢
  by_cases h5 : k = 5
  · rw [if_pos h5] at he ⊢; exact del_err he
  rw [if_neg h5] at he ⊢
  by_cases h6 : k = 6
  · rw [if_pos h6] at he ⊢; exact end_err he
  rw [if_neg h6] at he ⊢
  by_cases h7 : k = 7
  · rw [if_pos h7] at he ⊢; exact dup_err he
  rw [if_neg h7] at he ⊢
  by_cases h8 : k = 8
  · rw [if_pos h8] at he ⊢; exact put_err he
  rw [if_neg h8] at he ⊢
  by_cases h9 : k = 9
  · rw [if_pos h9] at he; exact absurd rfl he
  · rw [if_neg h9] at he; exact absurd rfl he
end
end Go.Proofs.Ytlcjiffnmpkndaa.Pl
