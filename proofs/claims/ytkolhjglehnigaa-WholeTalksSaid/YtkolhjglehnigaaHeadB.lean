/-
  The contracts of Sense and Answer.
-/
import Derived.Test.YtkolhjglehnigaaHeadA
namespace Go.Proofs.Ytkolhjglehnigaa.Head
open Go.RowKit Base
set_option linter.unusedVariables false

/-- What an answer says. -/
def senseB (h : Hd) (L : List Int) : Bool := decide (h.ty = 2 ∧ (h.rs = 0 ∨ h.rs = 1) ∧ L.length = 1)
/-! ### The record that answers one -/
def ansL (h : Hd) (e : Int) : Option (List Int) :=
  if 1 < h.ty then none
  else if e = 0 ∧ h.rs = 2 then some [2, 0, 0, h.seq / 256, h.seq % 256, 0]
  else if e ≠ 0 ∧ (h.rs = 1 ∨ h.rs = 2) then some [2, 0, 1, h.seq / 256, h.seq % 256, codeB e]
  else none
def AnsP (o : Option (List Int)) (w : World) (e : Ending) (w' : World) : Prop :=
  Below w.heap.size w w' ∧ match o with
    | none => e = .returned (.tuple #[.slice none 0 0, .bool false])
    | some L => ∃ p, e = .returned (.tuple #[p, .bool true]) ∧ OwnBytes w.heap.size w' p L
theorem AnsP.no {o : Option (List Int)} {w w' : World} (ho : o = none) (hb : Below w.heap.size w w') : AnsP o w (.returned (.tuple #[.slice none 0 0, .bool false])) w' := by
  subst ho; exact ⟨hb, rfl⟩
theorem AnsP.yes {o : Option (List Int)} {L : List Int} {w w' : World} {p : Value} (ho : o = some L) (hp : OwnBytes w.heap.size w' p L) (hb : Below w.heap.size w w') : AnsP o w (.returned (.tuple #[p, .bool true])) w' := by
  subst ho; exact ⟨hb, p, rfl, hp⟩
theorem ty_small {ty : Int} (h0 : 0 ≤ ty) (h : ¬ 1 < ty) : ty = 0 ∨ ty = 1 := by omega
theorem yes_world {w w1 w2 : World} {o : Option (List Int)} {L : List Int} {p : Value} (ho : o = some L) (h1 : Below w.heap.size w w1) (hp : OwnBytes w1.heap.size w2 p L) (h2 : Below w1.heap.size w1 w2) : AnsP o w (.returned (.tuple #[p, .bool true])) w2 :=
  AnsP.yes ho (hp.lower h1.size) (h1.trans (h2.mono h1.size))
/-- A box of a header, in a world. -/
structure AQ (w : World) (g : Nat) (cs : Array Value) (W : World) : Prop where
  old : Below w.heap.size w W
  blk : W.heap[g]? = some (.cells cs 116 (0, 0))
  size : cs.size = 4
section
variable {w W : World} {g : Nat} {cs : Array Value}
theorem AQ.s {a b c d : Value} (h : AQ w g #[a, b, c, d] W) : W.cell? ⟨g, 0, none⟩ = some a ∧ W.cell? ⟨g, 1, none⟩ = some b ∧ W.cell? ⟨g, 2, none⟩ = some c ∧ W.cell? ⟨g, 3, none⟩ = some d ∧ AQ w g #[a, b, c, d] W :=
  ⟨by simp [World.cell?, h.blk], by simp [World.cell?, h.blk], by simp [World.cell?, h.blk], by simp [World.cell?, h.blk], h⟩
theorem AQ.of_s {p q r t : Prop} (h : p ∧ q ∧ r ∧ t ∧ AQ w g cs W) : AQ w g cs W := h.2.2.2.2
theorem AQ.below {W' : World} (h : AQ w g cs W) (t : Below W.heap.size W W') : AQ w g cs W' := ⟨h.old.trans (t.mono h.old.size), (t.block _ (lt_of_block h.blk)).trans h.blk, h.size⟩
theorem AQ.fin {W' : World} {p : Value} {L : List Int} (h : AQ w g cs W) (hp : OwnBytes W.heap.size W' p L) (t : Below W.heap.size W W') : AQ w g cs W' ∧ OwnBytes w.heap.size W' p L := ⟨h.below t, hp.lower h.old.size⟩
theorem AQ.drew (h : AQ w g cs W) : AQ w g cs W.drew := ⟨h.old.drew, h.blk, h.size⟩
theorem AQ.alloc (h : AQ w g cs W) (o : Obj) : AQ w g cs (W.alloc o) := ⟨h.old.alloc h.old.size o, (Below.heap_alloc _ _ _ (lt_of_block h.blk)).trans h.blk, h.size⟩
end
end Go.Proofs.Ytkolhjglehnigaa.Head
