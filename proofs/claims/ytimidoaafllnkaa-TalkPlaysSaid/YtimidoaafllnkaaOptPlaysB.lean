/-
  The statements' helper that collects the options that are on, as far as is asked for: its contract.
-/
import Derived.Test.YtimidoaafllnkaaOptPlaysA
namespace Go.Proofs.Ytimidoaafllnkaa.Opt
open Go.RowKit Go.Shelf Base
attribute [local go_sem] Oper.semAt_some
set_option linter.unusedVariables false

/-- What the loop knows between two rounds. -/
def LI (s N : Nat) (w0 : World) (q : Nat) (pre : List Int) (W : World) : Prop :=
  (∃ v, Boxed W (s + 2) 24 v ∧ W.ownsRow (s + 1) 5 1 v pre.length (pre.map (Value.int .u8)) ∧ (∀ g, v.ownBlock = some g → g = s + 1 ∨ N ≤ g)) ∧ Boxed W s 3 (.int .i64 q) ∧ Below s w0 W ∧ N ≤ W.heap.size
theorem LI.own (s N : Nat) (w0 : World) (q : Nat) (B : Nat) (hs : s ≤ B) : OwnFrom B (LI s N w0 q) := by
  rintro pre X Y row ⟨⟨v, hv, hr, hg⟩, hq, hb, hN⟩ hgr hrow
  have hbox : ∀ {k t u}, Boxed X k t u → some k ≠ row := by
    intro k t u h e
    obtain ⟨_, o, ho, hc⟩ := hrow k e.symm
    rw [show X.heap[k]? = _ from h] at ho; cases ho; cases hc
  refine ⟨⟨v, hv.kept hgr (hbox hv), hr.kept hgr ?_, hg⟩, hq.kept hgr (hbox hq), hb.grown hgr ?_ ?_, Nat.le_trans hN hgr.size⟩
  · rcases hr.2 with ⟨rfl, _⟩ | ⟨g, cap, cur, rfl, _, hgb, _⟩
    · exact .inl rfl
    · refine .inr fun e' => ?_
      obtain ⟨_, o, ho, hc⟩ := hrow g (by simpa [Value.ownBlock] using e'.symm)
      rw [hgb] at ho; cases ho; cases hc
  · have := hv.lt; omega
  · intro k e; have := (hrow k e).1; omega
theorem LI.append {s N q : Nat} {w0 W w1 : World} {pre : List Int} {x : Int} {v v' : Value} {tmp : Obj} (hs : s + 5 ≤ N) (hv : Boxed W (s + 2) 24 v) (hrow : W.ownsRow (s + 1) 5 1 v pre.length (pre.map (Value.int .u8)))
    (hg : ∀ g, v.ownBlock = some g → g = s + 1 ∨ N ≤ g) (hqb : Boxed W s 3 (.int .i64 q)) (hb : Below s w0 W) (hNW : N ≤ W.heap.size)
    (hown' : w1.ownsRow (s + 1) 5 1 v' (pre.length + 1) (pre.map (Value.int .u8) ++ [.int .u8 x])) (hgrow : (W.alloc tmp).grownBy w1 v.ownBlock) (hat : v'.ownBlock = v.ownBlock ∨ v'.ownBlock = some (W.alloc tmp).heap.size) :
    Boxed w1 (s + 2) 24 v ∧ Boxed w1 s 3 (.int .i64 q) ∧ Boxed (w1.setCell ⟨s + 2, 0, none⟩ v') (s + 2) 24 v' ∧ Boxed (w1.setCell ⟨s + 2, 0, none⟩ v') s 3 (.int .i64 q) ∧ KeepsOthers W (w1.setCell ⟨s + 2, 0, none⟩ v') ∧
      Hid (LI s N w0 q (pre ++ [x]) (w1.setCell ⟨s + 2, 0, none⟩ v') ∧ W.heap.size ≤ (w1.setCell ⟨s + 2, 0, none⟩ v').heap.size ∧ ∀ k, (s + 3 ≤ k ∧ k < N ∨ k < s) → (w1.setCell ⟨s + 2, 0, none⟩ v').heap[k]? = W.heap[k]?) := by
  obtain ⟨hv1, hv2, hr2, hk2, hb2⟩ := hv.appended (by decide) hrow (by omega) (by omega) hown' hgrow
  have hq1 : Boxed w1 s 3 (.int .i64 q) := (hqb.alloc tmp).kept hgrow (fun e => by rcases hg _ e.symm with h | h <;> omega)
  have hq2 := hq1.other (B' := s + 2) (by omega) v'
  refine ⟨hv1, hq1, hv2, hq2, hk2, ⟨⟨v', hv2, by simpa using hr2, ?_⟩, hq2, hb.trans (hb2.mono (by omega)), Nat.le_trans hNW hb2.size⟩, hb2.size, ?_⟩
  · intro g e
    rcases hat with h | h
    · exact hg g (by rw [← h]; exact e)
    · rw [h, World.size_alloc] at e; cases e; right; omega
  · intro k hk
    rw [Below.heap_setCell _ _ _ _ (by show k ≠ s + 2; omega), hgrow.block k (by rw [World.size_alloc]; omega) (fun e => by rcases hg _ e.symm with h | h <;> omega), Below.heap_alloc _ _ _ (by omega)]
end Go.Proofs.Ytimidoaafllnkaa.Opt
