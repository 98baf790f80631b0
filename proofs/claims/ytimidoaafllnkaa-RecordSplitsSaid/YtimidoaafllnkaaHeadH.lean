/-
  The reference's headers: 'as', Write, Answer.
-/
import Derived.Test.YtimidoaafllnkaaHeadC
import Derived.Test.YtimidoaafllnkaaRefB
namespace Go.Proofs.Ytimidoaafllnkaa.Head
open Go.RowKit Base Iac
set_option linter.unusedVariables false

def rhA (h : Hd) : Array Value := #[.int .u8 h.ty, .int .u8 h.rq, .int .u8 h.rs, .int .i64 h.seq]
theorem results_row {fn : Func} {p : Tmp} {ty : TypeId} (h : fn.results = #[.cell p ty]) (tmps : Array Value) (w : World) (g : Nat) (cs : Array Value)
    (hp : tmps.getD p undef = .pointer (some ⟨g, 0, none⟩)) (hrun : (loadVar ty ⟨g, 0, none⟩).run Try.prog w = .ok (.agg cs) w) :
    (results fn tmps).run Try.prog w = .ok (.agg cs) w := by
  have hp' : tmps[p]?.getD undef = .pointer (some ⟨g, 0, none⟩) := by simpa using hp
  simp only [results, h]
  simp [hp', asAddr, hrun]
theorem boxed4 {W : World} {g : Nat} {a b c d : Value} {t : TypeId} (h : W.heap[g]? = some (.cells #[a, b, c, d] t (0, 0))) : W.cell? ⟨g, 0, none⟩ = some a ∧ W.cell? ⟨g, 1, none⟩ = some b ∧ W.cell? ⟨g, 2, none⟩ = some c ∧ W.cell? ⟨g, 3, none⟩ = some d :=
  ⟨by simp [World.cell?, h], by simp [World.cell?, h], by simp [World.cell?, h], by simp [World.cell?, h]⟩
/-- A header laid into a box. -/
theorem laid4 {W : World} {g : Nat} {t : TypeId} {p q r s : Value} (h : W.heap[g]? = some (.cells #[p, q, r, s] t (0, 0))) (a b c d : Value) : (((((W.setCell ⟨g, 0, none⟩ a).setCell ⟨g, 1, none⟩ b).setCell ⟨g, 2, none⟩ c).setCell ⟨g, 3, none⟩ d)).heap[g]? = some (.cells #[a, b, c, d] t (0, 0)) := by
  have h1 := heap_set (heap_set (heap_set (heap_set h 0 a) 1 b) 2 c) 3 d
  rw [h1]
  rfl
theorem old4 {w W : World} {g : Nat} (h : Below w.heap.size w W) (hg : w.heap.size ≤ g) (a b c d : Value) : Below w.heap.size w ((((W.setCell ⟨g, 0, none⟩ a).setCell ⟨g, 1, none⟩ b).setCell ⟨g, 2, none⟩ c).setCell ⟨g, 3, none⟩ d) := (((h.setCell hg _).setCell hg _).setCell hg _).setCell hg _
/-! ### The record that answers one -/
section
variable {w W : World} {g : Nat} {cs : Array Value}
end
end Go.Proofs.Ytimidoaafllnkaa.Head
