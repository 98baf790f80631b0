/-
  Bytes with each 255 twice: the contract of Escape.
-/
import Derived.Test.YtmmgebiojpnhcaaDoorBytes
namespace Go.Proofs.YtmmgebiojpnhcaaDoor.Iac
open Go.RowKit Base
set_option linter.unusedVariables false

/-- Bytes with each 255 twice. -/
def escL (L : List Int) : List Int := L.flatMap fun x => if x = 255 then [255, 255] else [x]
theorem escL_append (A B : List Int) : escL (A ++ B) = escL A ++ escL B := by simp [escL]
theorem escL_le (L : List Int) : (escL L).length ≤ 2 * L.length := by
  induction L with
  | nil => simp [escL]
  | cons x L ih =>
    have : escL (x :: L) = (if x = 255 then [255, 255] else [x]) ++ escL L := by simp [escL]
    rw [this, List.length_append, List.length_cons]
    split <;> simp <;> omega
def EscRel (L : List Int) (n s : Nat) (w : World) (p i : Value) (wr : World) : Prop :=
  ∃ k : Nat, k ≤ n ∧ i = .int .i64 k ∧ OwnBytes s wr p (escL (L.take k)) ∧ Below s w wr
end Go.Proofs.YtmmgebiojpnhcaaDoor.Iac
