/-
  A talk's zero.
-/
import Derived.Test.YtimidoaafllnkaaTalkD
import Derived.Test.YtimidoaafllnkaaAppRow
import Derived.Laws.Rows
namespace Go.Proofs.Ytimidoaafllnkaa.Talk
open Go.RowKit Base Opt
set_option linter.unusedVariables false

theorem size_opt : (Try.prog.info? 112).map (·.size) = some 1024 := by kernel_rfl
def zcell (j : Nat) : Value := if j = 0 then .string ⟨#[]⟩ else if j = 1025 then .bool false else cellOf (fun _ => false) (fun _ => 0) (j - 1)
def ztalk : Array Value := Array.ofFn fun j : Fin 1026 => zcell j.val
theorem info_talk : (Try.prog.info? 115).map (fun i => (i.zero, i.size)) = some (some (.agg ztalk), 1026) := by kernel_rfl
theorem ztalk_eq : ztalk = talkC ⟨#[]⟩ (fun _ => false) (fun _ => 0) false := by
  apply Array.ext_getElem?
  intro j
  rw [talkC_at]
  unfold ztalk
  by_cases hj : j < 1026
  · rw [Array.getElem?_ofFn, dif_pos hj]
    unfold zcell
    by_cases h0 : j = 0
    · simp [h0]
    · by_cases h1 : j = 1025
      · simp [h1]
      · rw [if_neg h0, if_neg h1, if_neg h0, if_pos (by omega)]
  · rw [Array.getElem?_ofFn, dif_neg hj, if_neg (by omega), if_neg (by omega), if_neg (by omega)]
end Go.Proofs.Ytimidoaafllnkaa.Talk
