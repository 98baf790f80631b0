/-
  What is written of two rows of orders: plainly.
-/
import Derived.Test.YtjeknociobbhpaaDoorOrdBC
namespace Go.Proofs.YtjeknociobbhpaaDoor.Ord
open Go.RowKit Base
set_option linter.unusedVariables false
set_option linter.unusedSimpArgs false

theorem wErr_cons (o : Or) (os : List Or) (n : Int) : wErr (o :: os) n = if chkO o n = 0 then wErr os n else chkO o n := rfl
theorem wErr_append (ys : List Or) (n : Int) : ∀ (xs : List Or), wErr (xs ++ ys) n = if wErr xs n = 0 then wErr ys n else wErr xs n
  | [] => by simp [wErr]
  | o :: xs => by
    have ih := wErr_append ys n xs
    rw [List.cons_append, wErr_cons, wErr_cons]
    by_cases h : chkO o n = 0
    · rw [if_pos h, if_pos h]; exact ih
    · rw [if_neg h, if_neg h, if_neg h]
theorem wBytes_append (xs ys : List Or) (n : Int) : wBytes (xs ++ ys) n = wBytes xs n ++ wBytes ys n := by simp [wBytes]
/-- What the law asks of the three errors, and of the bytes. -/
theorem two_errs (xs ys : List Or) (n : Int) : (wErr (xs ++ ys) n = 0 ↔ wErr xs n = 0 ∧ wErr ys n = 0) ∧ (wErr xs n ≠ 0 → wErr (xs ++ ys) n = wErr xs n) := by
  rw [wErr_append]
  by_cases h : wErr xs n = 0
  · rw [if_pos h]
    exact ⟨⟨fun k => ⟨h, k⟩, fun k => k.2⟩, fun k => absurd h k⟩
  · rw [if_neg h]
    exact ⟨⟨fun k => absurd k h, fun k => absurd k.1 h⟩, fun _ => rfl⟩
theorem same_symm (a b : Or) : sameO a b = sameO b a := by
  by_cases h : a = b
  · rw [h]
  · have h1 : sameO a b = false := by
      cases e : sameO a b
      · rfl
      · exact absurd ((sameO_eq a b).1 e) h
    have h2 : sameO b a = false := by
      cases e : sameO b a
      · rfl
      · exact absurd ((sameO_eq b a).1 e).symm h
    rw [h1, h2]
end Go.Proofs.YtjeknociobbhpaaDoor.Ord
