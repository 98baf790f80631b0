/-
  The contracts of Sense and Answer.
-/
import Derived.Test.YtimidoaafllnkaaHeadA
namespace Go.Proofs.Ytimidoaafllnkaa.Head
open Go.RowKit Base
set_option linter.unusedVariables false

/-- What an answer says. -/
def senseB (h : Hd) (L : List Int) : Bool := decide (h.ty = 2 ∧ (h.rs = 0 ∨ h.rs = 1) ∧ L.length = 1)
/-! ### The record that answers one -/
def ansL (h : Hd) (e : Int) : Option (List Int) :=
  if 1 < h.ty then none
  else if e = 0 ∧ h.rs = 2 then some [2, 0, 0, h.seq / 256, h.seq % 256, 0]
  else if e ≠ 0 ∧ (h.rs = 1 ∨ h.rs = 2) then some [2, 0, 1, h.seq / 256, h.seq % 256, codeB e]
  else none
def AnsP (o : Option (List Int)) (w : World) (e : Ending) (w' : World) : Prop :=
  Below w.heap.size w w' ∧ match o with
    | none => e = .returned (.tuple #[.slice none 0 0, .bool false])
    | some L => ∃ p, e = .returned (.tuple #[p, .bool true]) ∧ OwnBytes w.heap.size w' p L
theorem AnsP.no {o : Option (List Int)} {w w' : World} (ho : o = none) (hb : Below w.heap.size w w') : AnsP o w (.returned (.tuple #[.slice none 0 0, .bool false])) w' := by
  subst ho; exact ⟨hb, rfl⟩
theorem AnsP.yes {o : Option (List Int)} {L : List Int} {w w' : World} {p : Value} (ho : o = some L) (hp : OwnBytes w.heap.size w' p L) (hb : Below w.heap.size w w') : AnsP o w (.returned (.tuple #[p, .bool true])) w' := by
  subst ho; exact ⟨hb, p, rfl, hp⟩
theorem ty_small {ty : Int} (h0 : 0 ≤ ty) (h : ¬ 1 < ty) : ty = 0 ∨ ty = 1 := by omega
theorem yes_world {w w1 w2 : World} {o : Option (List Int)} {L : List Int} {p : Value} (ho : o = some L) (h1 : Below w.heap.size w w1) (hp : OwnBytes w1.heap.size w2 p L) (h2 : Below w1.heap.size w1 w2) : AnsP o w (.returned (.tuple #[p, .bool true])) w2 :=
  AnsP.yes ho (hp.lower h1.size) (h1.trans (h2.mono h1.size))
section
variable {w W : World} {g : Nat} {cs : Array Value}
end
end Go.Proofs.Ytimidoaafllnkaa.Head
