/-
  The first cells of a field (as WpB has them), plainly.
-/
import Derived.Test.YtlcjiffnmpkndaaWpA
namespace Go.Proofs.Ytlcjiffnmpkndaa.Pl
def insP (n : Nat) (f : Fd) : List Int := (placesL n f.s f.k).take n
end Go.Proofs.Ytlcjiffnmpkndaa.Pl
