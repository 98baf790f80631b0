/-
  A step of two queues and the reference's, of whatever kind.
-/
import Derived.Test.YtndhhpiklaffoaaMailStepPut
import Derived.Test.YtndhhpiklaffoaaMailStepGet
import Derived.Test.YtndhhpiklaffoaaMailStepShut
import Derived.Test.YtndhhpiklaffoaaMailStepTake
import Derived.Test.YtndhhpiklaffoaaMailStepFirst
import Derived.Test.YtndhhpiklaffoaaMailStepPour
namespace Go.Proofs.Ytndhhpiklaffoaa.Mail
open Go.RowKit
set_option linter.unusedVariables false

theorem step_any {s g t : Nat} {w W : World} {r1 r2 : Nat} (i : Int) (hi : i = 0 ∨ i = 1) (kind x : Int) (oth : Bool) (h : Even s g t w r1 r2 W) :
    Calls Try.prog 14 #[.slice (some ⟨g, 0, none⟩) 2 2, .slice (some ⟨t, 0, none⟩) 2 2, .int .i64 i, .agg #[.int .i64 kind, .int .i64 x, .bool oth]] W fun e W' => e = .returned (.bool true) ∧ Even s g t w r1 r2 W' := by
  obtain ⟨A1, c1, A2, c2, u1, u2, h⟩ := h
  by_cases h0 : kind = 0 ∨ kind = 1 ∨ kind = 2
  · rcases hi with rfl | rfl
    · exact step_put1 h h0
    · exact step_put2 h h0
  · by_cases h1 : kind = 3 ∨ kind = 4
    · rcases hi with rfl | rfl
      · exact step_get1 h h1
      · exact step_get2 h h1
    · by_cases h5 : kind = 5
      · subst h5
        rcases hi with rfl | rfl
        · exact step_shut1 h
        · exact step_shut2 h
      · by_cases h6 : kind = 6
        · subst h6
          rcases hi with rfl | rfl
          · exact step_take1 h
          · exact step_take2 h
        · by_cases h7 : kind = 7
          · subst h7; exact step_first i h
          · by_cases h8 : kind = 8
            · subst h8
              rcases hi with rfl | rfl
              · exact step_pour1 h
              · exact step_pour2 h
            · exact step_else i h (by omega)
end Go.Proofs.Ytndhhpiklaffoaa.Mail
