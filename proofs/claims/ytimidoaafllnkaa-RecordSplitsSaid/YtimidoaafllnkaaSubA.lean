/-
  A subnegotiation's bytes, plainly: where the decoder stands within them, and behind them.
-/
import Derived.Test.YtimidoaafllnkaaEscPlain
import Derived.Test.YtimidoaafllnkaaRec10C
namespace Go.Proofs.Ytimidoaafllnkaa.Iac
open Go.RowKit Base
set_option linter.unusedVariables false
set_option linter.unusedSimpArgs false

def Subbing (X : List Int) (st : Nat) (nm : Bool) : Prop := ∀ (D : Dec) (J : List Ev), D.state = 3 → D.named = false → ∃ D', foldF (D, J) X = (D', J) ∧ D'.state = st ∧ D'.named = nm
def Subbed (X : List Int) : Prop := ∀ (D : Dec) (J : List Ev), D.state = 3 → D.named = false → ∃ D' e, foldF (D, J) X = (D', J ++ [e]) ∧ D'.state = 0 ∧ e.kind ≠ 1 ∧ e.kind ≠ 2
theorem foldF_snoc (r : Dec × List Ev) (X : List Int) (x : Int) : foldF r (X ++ [x]) = takeD (foldF r X).1 (foldF r X).2 x := by simp [foldF]
theorem keepD_named (D : Dec) (x : Int) : (keepD D x).named = true ∧ (keepD D x).state = D.state := by
  unfold keepD
  repeat' split
  all_goals simp_all
theorem Subbing.nil : Subbing [] 3 false := fun D J h1 h2 => ⟨D, rfl, h1, h2⟩
theorem Subbing.byte {X : List Int} {nm : Bool} (h : Subbing X 3 nm) (x : Int) (hx : x ≠ 255) : Subbing (X ++ [x]) 3 true := fun D J h1 h2 => by
  obtain ⟨D', e, hs, hn⟩ := h D J h1 h2
  refine ⟨keepD D' x, ?_, by rw [(keepD_named D' x).2, hs], (keepD_named D' x).1⟩
  rw [foldF_snoc, e]
  exact take3 D' J x hs hx
theorem Subbing.mark {X : List Int} {nm : Bool} (h : Subbing X 3 nm) : Subbing (X ++ [255]) 4 nm := fun D J h1 h2 => by
  obtain ⟨D', e, hs, hn⟩ := h D J h1 h2
  refine ⟨{ D' with state := 4 }, ?_, rfl, hn⟩
  rw [foldF_snoc, e]
  exact take3m D' J hs
theorem Subbing.twice {X : List Int} {nm : Bool} (h : Subbing X 4 nm) : Subbing (X ++ [255]) 3 true := fun D J h1 h2 => by
  obtain ⟨D', e, hs, hn⟩ := h D J h1 h2
  refine ⟨keepD { D' with state := 3 } 255, ?_, (keepD_named _ _).2, (keepD_named _ _).1⟩
  rw [foldF_snoc, e]
  show takeD D' J 255 = _
  rw [take4 D' J 255 hs]
  unfold markedD
  rw [if_pos rfl]
theorem Subbing.ends {X : List Int} {nm : Bool} (h : Subbing X 4 nm) : Subbed (X ++ [240]) := fun D J h1 h2 => by
  obtain ⟨D', e, hs, hn⟩ := h D J h1 h2
  refine ⟨{ D' with state := 0 }, eventE D', ?_, rfl, ?_, ?_⟩
  · rw [foldF_snoc, e]
    show takeD D' J 240 = _
    rw [take4 D' J 240 hs]
    unfold markedD
    rw [if_neg (by omega), if_pos rfl]
  · unfold eventE badE
    split
    · simp
    · split <;> simp
  · unfold eventE badE
    split
    · simp
    · split <;> simp
theorem take_drop_snoc (b : List Int) (a p : Nat) (x : Int) (h : b[p]? = some x) (ha : a ≤ p) : (b.drop a).take (p + 1 - a) = (b.drop a).take (p - a) ++ [x] := by
  rw [show p + 1 - a = (p - a) + 1 by omega, List.take_add_one, List.getElem?_drop, show a + (p - a) = p by omega, h]
  rfl
end Go.Proofs.Ytimidoaafllnkaa.Iac
