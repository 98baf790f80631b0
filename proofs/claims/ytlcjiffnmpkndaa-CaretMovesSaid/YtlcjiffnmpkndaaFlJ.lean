/-
  A row that grows, in a box of the call's own, while an iterator goes on; the bytes of a field.
-/
import Derived.Test.YtlcjiffnmpkndaaFlI
namespace Go.Proofs.Ytlcjiffnmpkndaa.Pl
open Go.RowKit Go.Shelf Base
attribute [local go_sem] Oper.semAt_some
set_option linter.unusedVariables false
set_option linter.unusedSimpArgs false

theorem row_typed {W : World} {et : TypeId} {k n : Nat} {xs : List Value} {v : Value} (h : W.ownsRow 0 et k v n xs) : ∀ j, v.ownBlock = some j → ∃ cs, W.heap[j]? = some (.cells cs et (0, 0)) := by
  intro j hj
  rcases h.2 with ⟨rfl, _⟩ | ⟨g, cap, cur, rfl, _, hg, _⟩
  · simp [Value.ownBlock] at hj
  · simp [Value.ownBlock] at hj
    subst hj
    exact ⟨_, hg⟩
theorem row_turn {S : Nat → Prop} {W W' : World} {et : TypeId} {k n : Nat} {xs : List Value} {v : Value} (h : W.ownsRow 0 et k v n xs) (t : Turn S W W') (hX : ∀ j, v.ownBlock = some j → ¬ S j) : W'.ownsRow 0 et k v n xs := by
  refine ⟨h.1, ?_⟩
  rcases h.2 with hn | ⟨g, cap, cur, rfl, hbg, hg, rest⟩
  · exact .inl hn
  · exact .inr ⟨g, cap, cur, rfl, hbg, (t.block g (lt_of_block hg) (hX g rfl)).trans hg, rest⟩
theorem row_grown {W W' : World} {row : Option Nat} {et : TypeId} {k n : Nat} {xs : List Value} {v : Value} (h : W.ownsRow 0 et k v n xs) (hg : W.grownBy W' row) (hr : ∀ r, row = some r → ∃ o : Obj, W.heap[r]? = some o ∧ o.isCells = false) : W'.ownsRow 0 et k v n xs := by
  refine ⟨h.1, ?_⟩
  rcases h.2 with hn | ⟨g, cap, cur, rfl, hbg, hgg, rest⟩
  · exact .inl hn
  · exact .inr ⟨g, cap, cur, rfl, hbg, (cells_kept hgg hg hr).trans hgg, rest⟩
/-- A row in box s; its block isn't older than lo. -/
structure Gr (W : World) (lo s : Nat) (st et : TypeId) (k n : Nat) (xs : List Value) (v : Value) : Prop where
  bx : W.heap[s]? = some (.cells #[v] st (0, 0))
  row : W.ownsRow 0 et k v n xs
  lo : ∀ j, v.ownBlock = some j → lo ≤ j
section
variable {W W' : World} {lo s : Nat} {st et : TypeId} {k n : Nat} {xs : List Value} {v : Value}
theorem Gr.ne (h : Gr W lo s st et k n xs v) (ht : st ≠ et) : ∀ j, v.ownBlock = some j → j ≠ s := by
  rintro j hj rfl
  obtain ⟨cs, e⟩ := row_typed h.row j hj
  rw [h.bx] at e; cases e; exact ht rfl
theorem Gr.not {t : TypeId} {cs : Array Value} {fz : Nat × Nat} {j : Nat} (h : Gr W lo s st et k n xs v) (hj : W.heap[j]? = some (.cells cs t fz)) (ht : t ≠ et) (hs : j ≠ s) : ¬ (j = s ∨ v.ownBlock = some j) := by
  rintro (e | e)
  · exact hs e
  · obtain ⟨cs', e'⟩ := row_typed h.row j e; rw [hj] at e'; cases e'; exact ht rfl
theorem Gr.grown {row : Option Nat} (h : Gr W lo s st et k n xs v) (hg : W.grownBy W' row) (hr : ∀ r, row = some r → ∃ o : Obj, W.heap[r]? = some o ∧ o.isCells = false) : Gr W' lo s st et k n xs v :=
  ⟨(cells_kept h.bx hg hr).trans h.bx, row_grown h.row hg hr, h.lo⟩
theorem Gr.turn {S : Nat → Prop} (h : Gr W lo s st et k n xs v) (t : Turn S W W') (hs : ¬ S s) (hX : ∀ j, v.ownBlock = some j → ¬ S j) : Gr W' lo s st et k n xs v :=
  ⟨(t.block s (lt_of_block h.bx) hs).trans h.bx, row_turn h.row t hX, h.lo⟩
theorem Gr.app (h : Gr W lo s st et k n xs v) (ht : st ≠ et) (hlo : lo ≤ W.heap.size) {W1 w1 : World} (hb : Below W.heap.size W W1) (hgrow : W1.grownBy w1 v.ownBlock) {v' : Value} {n' : Nat} {ys : List Value} (hown' : w1.ownsRow 0 et k v' n' ys) (hat : v'.ownBlock = v.ownBlock ∨ v'.ownBlock = some W1.heap.size) :
    Gr (w1.setCell ⟨s, 0, none⟩ v') lo s st et k n' ys v' ∧ Turn (fun j => j = s ∨ v.ownBlock = some j) W (w1.setCell ⟨s, 0, none⟩ v') ∧ w1.cell? ⟨s, 0, none⟩ = some v ∧ w1.frozen? ⟨s, 0, none⟩ = false := by
  have hne := h.ne ht
  have lts := lt_of_block h.bx
  have b2 : w1.heap[s]? = some (.cells #[v] st (0, 0)) := (hgrow.block _ (Nat.lt_of_lt_of_le lts hb.size) (fun e => hne s e.symm rfl)).trans ((hb.block _ lts).trans h.bx)
  have t1 : Turn (fun j => j = s ∨ v.ownBlock = some j) W w1 := (Turn.of_below hb).grown hgrow (fun k hk => .inr (.inr hk))
  have t2 : Turn (fun j => j = s ∨ v.ownBlock = some j) w1 (w1.setCell ⟨s, 0, none⟩ v') := (turn_set w1 s 0 v').mono fun k hk => .inl hk
  refine ⟨⟨?_, ?_, ?_⟩, t1.trans t2, by simp [World.cell?, b2], by simp [World.frozen?, b2]⟩
  · rw [heap_set b2 0 _]; simp
  · refine row_turn hown' (turn_set w1 s 0 v') ?_
    intro j hj e
    have e' : j = s := e
    subst e'
    rcases hat with hh | hh
    · exact hne j (by rw [← hh]; exact hj) rfl
    · rw [hh] at hj; cases hj
      have := hb.size; omega
  · intro j hj
    rcases hat with hh | hh
    · exact h.lo j (by rw [← hh]; exact hj)
    · rw [hh] at hj; cases hj; have := hb.size; omega
end
end Go.Proofs.Ytlcjiffnmpkndaa.Pl
