/-
  Contract of Unmark of package field.
-/
import Derived.Test.YtlcjiffnmpkndaaFlG
namespace Go.Proofs.Ytlcjiffnmpkndaa.Pl
open Go.RowKit Go.Shelf Base
attribute [local go_sem] Oper.semAt_some
set_option linter.unusedVariables false
set_option linter.unusedSimpArgs false

theorem modified_k (y : Int) (w : World) (h0 : 0 ≤ y) (h1 : y ≤ 255) (v : Bool) (hv : Attr.modi y = v) : Calls Try.prog 51 #[.int .u8 y] w fun e w' => e = .returned (.bool v) ∧ w = w' := by
  subst hv; exact Attr.modified_any y w h0 h1
end Go.Proofs.Ytlcjiffnmpkndaa.Pl
