/-
  Contract of Text of package plane.
-/
import Derived.Test.YtgjhboikfbafcaaPlF
import Derived.Test.YtgjhboikfbafcaaCodeG
namespace Go.Proofs.Ytgjhboikfbafcaa.Pl
open Go.RowKit Go.Shelf Base
attribute [local go_sem] Oper.semAt_some
set_option linter.unusedVariables false
set_option linter.unusedSimpArgs false

/-- What is seen of a cell. -/
def signL (page : Int) (x : Cl) : List UInt8 := if x.st then [32] else if x.ge then geL x.b else Code.piece page x.b
def textC (page : Int) (P : List Cl) : List UInt8 := P.flatMap (signL page)
def textL (page : Int) (L : List Cl) (from_ n : Int) : List UInt8 := textC page (cellsL L from_ n)
theorem textC_snoc (page : Int) (P : List Cl) (x : Cl) : textC page (P ++ [x]) = textC page P ++ signL page x := by simp [textC]
/-- Bytes of the call's own, in block X. -/
def By (W : World) (X : Option Nat) (v : Value) (Bs : List Int) : Prop := W.ownsRow 0 5 1 v Bs.length (Bs.map (Value.int .u8)) ∧ v.ownBlock = X
/-- What a round of Text may turn. -/
def TS (s : Nat) (G X : Option Nat) (k : Nat) : Prop := k = s + 1 ∨ k = s + 2 ∨ G = some k ∨ X = some k
/-- What the loop of Text knows; s is the first of its own blocks. -/
structure TI (w : World) (page : Int) (b g : Nat) (r c cur : Int) (L : List Cl) (from_ n : Int) (s : Nat) (pre : List CO) (W : World) : Prop where
  it : CIt (s + 5) (s + 3) (s + 4) b g r c cur L from_ n W
  pg : W.heap[s]? = some (.cells #[.int .i64 page] 3 (0, 0))
  bd : ∃ G l X v Bs, Bd W (s + 1) G l ∧ W.heap[s + 2]? = some (.cells #[v] 43 (0, 0)) ∧ By W X v Bs ∧ (∀ k, G = some k → X ≠ some k) ∧ l ++ Code.textOf page Bs = textC page (pre.map (·.1)) ∧ l.length + 4 * Bs.length ≤ 4 * pre.length ∧ Bs.length ≤ pre.length ∧ Code.IsBytes Bs ∧ (∀ k, G = some k → s ≤ k) ∧ (∀ k, X = some k → s ≤ k)
  old : Below s w W
section
variable {w W W' : World} {page : Int} {b g : Nat} {r c cur : Int} {L : List Cl} {from_ n : Int} {s : Nat} {pre : List CO} {G X : Option Nat} {l : List UInt8} {v : Value} {Bs : List Int}
theorem By.typed (h : By W X v Bs) : ∀ k, X = some k → ∃ cs, W.heap[k]? = some (.cells cs 5 (0, 0)) := by
  obtain ⟨h1, h2⟩ := h
  intro k hk
  rcases h1.2 with ⟨rfl, _⟩ | ⟨g, cap, cur, rfl, _, hg, _⟩
  · rw [← h2] at hk; simp [Value.ownBlock] at hk
  · rw [← h2] at hk
    simp [Value.ownBlock] at hk
    subst hk
    exact ⟨_, hg⟩
theorem Bd.typed {b : Nat} (h : Bd W b G l) : ∀ k, G = some k → ∃ cs, W.heap[k]? = some (.cells cs 5 (0, 0)) := by
  obtain ⟨p, v, _, _, h1, h2, _⟩ := h
  intro k hk
  rcases h1.2 with ⟨rfl, _⟩ | ⟨g, cap, cur, rfl, _, hg, _⟩
  · rw [← h2] at hk; simp [Value.ownBlock] at hk
  · rw [← h2] at hk
    simp [Value.ownBlock] at hk
    subst hk
    exact ⟨_, hg⟩
theorem Bd.own {b : Nat} (h : Bd W b G l) : ∃ cs, W.heap[b]? = some (.cells cs 98 (0, 0)) := by
  obtain ⟨p, v, _, h1, _⟩ := h; exact ⟨_, h1⟩
theorem By.turn {S : Nat → Prop} (h : By W X v Bs) (t : Turn S W W') (hX : ∀ k, X = some k → ¬ S k) : By W' X v Bs := by
  obtain ⟨h1, h2⟩ := h
  refine ⟨⟨h1.1, ?_⟩, h2⟩
  rcases h1.2 with hn | ⟨g, cap, cur, rfl, hbg, hg, rest⟩
  · exact .inl hn
  · exact .inr ⟨g, cap, cur, rfl, hbg, (t.block g (lt_of_block hg) (hX g h2.symm)).trans hg, rest⟩
theorem By.lt (h : By W X v Bs) : ∀ k, X = some k → k < W.heap.size := fun k hk => by obtain ⟨cs, e⟩ := h.typed k hk; exact lt_of_block e
theorem By.row (h : By W X v Bs) : Code.RowOf .u8 W v Bs := Code.RowOf.of_owns h.1
theorem By.nil (W : World) : By W none (.slice none 0 0) [] := ⟨World.ownsRow_nil _ _ _ _, rfl⟩
/-- A block of cells of another kind than bytes is none of those that a round may turn, but for the two boxes. -/
theorem ts_not {t : TypeId} {cs : Array Value} {fz : Nat × Nat} {k : Nat} (hG : ∀ k, G = some k → ∃ cs, W.heap[k]? = some (.cells cs 5 (0, 0))) (hX : ∀ k, X = some k → ∃ cs, W.heap[k]? = some (.cells cs 5 (0, 0)))
    (hk : W.heap[k]? = some (.cells cs t fz)) (ht : t ≠ 5) (h1 : k ≠ s + 1) (h2 : k ≠ s + 2) : ¬ TS s G X k := by
  rintro (rfl | rfl | e | e)
  · exact h1 rfl
  · exact h2 rfl
  · obtain ⟨cs', e'⟩ := hG k e; rw [hk] at e'; cases e'; exact ht rfl
  · obtain ⟨cs', e'⟩ := hX k e; rw [hk] at e'; cases e'; exact ht rfl
theorem TI.kt {S : Nat → Prop} {N0 : Nat} (hG : ∀ k, G = some k → ∃ cs, W.heap[k]? = some (.cells cs 5 (0, 0))) (hX : ∀ k, X = some k → ∃ cs, W.heap[k]? = some (.cells cs 5 (0, 0))) (h1 : ∃ cs, W.heap[s + 1]? = some (.cells cs 98 (0, 0))) (h2 : ∃ cs, W.heap[s + 2]? = some (.cells cs 43 (0, 0)))
    (t : Turn (TS s G X) W W') (hN : s + 3 ≤ N0) (hS : ∀ k, S k → k < W.heap.size ∧ ¬ TS s G X k) : KT S N0 W W' := by
  refine ⟨⟨t.size, fun k o hk ho hc => (t.block k (lt_of_block ho) ?_).trans ho⟩, fun k cs ty fz hk hty ho => t.block k (lt_of_block ho) ?_, fun k hk => t.block k (hS k hk).1 (hS k hk).2⟩
  · rintro (rfl | rfl | e | e)
    · omega
    · omega
    · obtain ⟨cs', e'⟩ := hG k e; rw [ho] at e'; cases e'; cases hc
    · obtain ⟨cs', e'⟩ := hX k e; rw [ho] at e'; cases e'; cases hc
  · exact ts_not hG hX ho hty (by omega) (by omega)
/-- What a round leaves. -/
structure RL (w : World) (page : Int) (b g : Nat) (r c cur : Int) (L : List Cl) (from_ n : Int) (s N0 B0 : Nat) (pre : List CO) (Y W' : World) : Prop where
  ti : TI w page b g r c cur L from_ n s pre W'
  kt : KT (CS (s + 5) (s + 3) (s + 4) b g) N0 Y W'
  kf : KeepsFrom B0 Y W'
theorem TI.next {N0 B0 : Nat} (h : TI w page b g r c cur L from_ n s pre W) (hBd : Bd W (s + 1) G l) (hbox : W.heap[s + 2]? = some (.cells #[v] 43 (0, 0))) (hBy : By W X v Bs) (hN : s + 3 ≤ N0) (hB0 : s + 3 ≤ B0) (t : Turn (TS s G X) W W') (x : CO)
    (hbd : ∃ G l X v Bs, Bd W' (s + 1) G l ∧ W'.heap[s + 2]? = some (.cells #[v] 43 (0, 0)) ∧ By W' X v Bs ∧ (∀ k, G = some k → X ≠ some k) ∧ l ++ Code.textOf page Bs = textC page ((pre ++ [x]).map (·.1)) ∧ l.length + 4 * Bs.length ≤ 4 * (pre ++ [x]).length ∧ Bs.length ≤ (pre ++ [x]).length ∧ Code.IsBytes Bs ∧ (∀ k, G = some k → s ≤ k) ∧ (∀ k, X = some k → s ≤ k))
    (hGs : ∀ k, G = some k → s ≤ k) (hXs : ∀ k, X = some k → s ≤ k) :
    RL w page b g r c cur L from_ n s N0 B0 (pre ++ [x]) W W' := by
  obtain ⟨A, B, e1, e2⟩ := h.it.pl.blocks
  have hG := hBd.typed
  have hX := hBy.typed
  have d1 : (3 : TypeId) ≠ 5 := by decide
  have d2 : (26 : TypeId) ≠ 5 := by decide
  have d3 : (122 : TypeId) ≠ 5 := by decide
  have d4 : (45 : TypeId) ≠ 5 := by decide
  obtain ⟨cs1, hB1⟩ := hBd.own
  have nb : ∀ {k : Nat} {cs : Array Value} {ty : TypeId}, W.heap[k]? = some (.cells cs ty (0, 0)) → ty ≠ 98 → ty ≠ 43 → k ≠ s + 1 ∧ k ≠ s + 2 := by
    intro k cs ty hk h1 h2
    refine ⟨?_, ?_⟩
    · rintro rfl; rw [hk] at hB1; cases hB1; exact h1 rfl
    · rintro rfl; rw [hk] at hbox; cases hbox; exact h2 rfl
  have hS : ∀ k, CS (s + 5) (s + 3) (s + 4) b g k → k < W.heap.size ∧ ¬ TS s G X k := by
    rintro k hk
    refine ⟨h.it.low k hk, ?_⟩
    rcases hk with rfl | rfl | rfl | rfl | rfl
    · exact ts_not hG hX h.it.hn d1 (by omega) (by omega)
    · exact ts_not hG hX h.it.hp d2 (by omega) (by omega)
    · exact ts_not hG hX h.it.hf d1 (by omega) (by omega)
    · exact ts_not hG hX e1 d3 (nb e1 (by decide) (by decide)).1 (nb e1 (by decide) (by decide)).2
    · exact ts_not hG hX e2 d4 (nb e2 (by decide) (by decide)).1 (nb e2 (by decide) (by decide)).2
  have kt : KT (CS (s + 5) (s + 3) (s + 4) b g) (s + 3) W W' := TI.kt hG hX ⟨_, hB1⟩ ⟨_, hbox⟩ t (Nat.le_refl _) hS
  refine ⟨⟨h.it.keep t.size kt.low, ?_, hbd, ?_⟩, ⟨keepsFrom_up kt.others hN, fun k cs ty fz hk => kt.typed k cs ty fz (by omega), kt.low⟩, keepsFrom_up kt.others hB0⟩
  · exact (t.block s (lt_of_block h.pg) (ts_not hG hX h.pg d1 (by omega) (by omega))).trans h.pg
  · have hs := h.old.size
    refine h.old.trans (t.below (lt_of_block h.pg |> Nat.le_of_lt) ?_)
    rintro k (rfl | rfl | e | e)
    · omega
    · omega
    · exact hGs k e
    · exact hXs k e
theorem TI.app {N0 B0 : Nat} (h : TI w page b g r c cur L from_ n s pre W) (hBd : Bd W (s + 1) G l) (hbox : W.heap[s + 2]? = some (.cells #[v] 43 (0, 0))) (hBy : By W X v Bs) (hGX : ∀ k, G = some k → X ≠ some k)
    (htext : l ++ Code.textOf page Bs = textC page (pre.map (·.1))) (ll : l.length + 4 * Bs.length ≤ 4 * pre.length) (lb : Bs.length ≤ pre.length) (hby : Code.IsBytes Bs) (hGs : ∀ k, G = some k → s ≤ k) (hXs : ∀ k, X = some k → s ≤ k)
    (hN : s + 3 ≤ N0) (hB0 : s + 3 ≤ B0) (x : CO) (d : Int) (hd : signL page x.1 = Code.piece page d) (hd0 : 0 ≤ d ∧ d ≤ 255) {w1 : World} {v' : Value} {o : Obj}
    (hown' : w1.ownsRow 0 5 1 v' (Bs.length + 1) (Bs.map (Value.int .u8) ++ [.int .u8 d])) (hgrow : (W.alloc o).grownBy w1 v.ownBlock) (hat : v'.ownBlock = v.ownBlock ∨ v'.ownBlock = some (W.alloc o).heap.size) :
    Hid (RL w page b g r c cur L from_ n s N0 B0 (pre ++ [x]) W (w1.setCell ⟨s + 2, 0, none⟩ v')) ∧ w1.cell? ⟨s + 2, 0, none⟩ = some v ∧ w1.frozen? ⟨s + 2, 0, none⟩ = false := by
  have hX := hBy.typed
  have hG := hBd.typed
  have hne2 : some (s + 2) ≠ X := by
    intro e
    obtain ⟨cs, e'⟩ := hX _ e.symm
    rw [hbox] at e'; cases e'
  have hne1 : some (s + 1) ≠ X := by
    intro e
    obtain ⟨cs, e'⟩ := hX _ e.symm
    obtain ⟨cs', e2⟩ := hBd.own
    rw [e2] at e'; cases e'
  have hvX := hBy.2
  have lt2 := lt_of_block hbox
  have b2 : w1.heap[s + 2]? = some (.cells #[v] 43 (0, 0)) := (hgrow.block _ (by rw [World.size_alloc]; omega) (by rw [hvX]; exact hne2)).trans ((Below.heap_alloc _ _ _ lt2).trans hbox)
  refine ⟨?_, by simp [World.cell?, b2], by simp [World.frozen?, b2]⟩
  have t1 : Turn (TS s G X) W w1 := (Turn.of_below (below_alloc W o)).grown hgrow (fun k hk => .inr (.inr (.inr (.inr (by rw [← hvX]; exact hk)))))
  have t2 : Turn (TS s G X) w1 (w1.setCell ⟨s + 2, 0, none⟩ v') := (turn_set w1 (s + 2) 0 v').mono fun k hk => .inr (.inl hk)
  have hs := h.old.size
  have hX' : ∀ k, v'.ownBlock = some k → X = some k ∨ W.heap.size ≤ k := by
    intro k hk
    rcases hat with e | e
    · left; rw [← hvX, ← e]; exact hk
    · right; rw [e] at hk; cases hk; simp
  have hne3 : ∀ k, v'.ownBlock = some k → k ≠ s + 2 ∧ k ≠ s + 1 := by
    intro k hk
    rcases hX' k hk with e | e
    · exact ⟨fun e2 => hne2 (by rw [e, e2]), fun e2 => hne1 (by rw [e, e2])⟩
    · omega
  refine h.next hBd hbox hBy hN hB0 (t1.trans t2) x ⟨G, l, v'.ownBlock, v', Bs ++ [d], ?_, ?_, ⟨?_, rfl⟩, ?_, ?_, ?_, ?_, ?_, hGs, ?_⟩ hGs hXs
  · have hBd1 : Bd w1 (s + 1) G l := by
      refine (hBd.below (below_alloc W o)).turn (S := fun k => X = some k) ⟨hgrow.os, hgrow.tape, hgrow.output, hgrow.size, fun k hk hn => hgrow.block k hk (fun e => hn (by rw [← hvX, ← e]))⟩ (fun e => hne1 e.symm) (fun k hk e => hGX k hk e)
    refine hBd1.turn (turn_set w1 (s + 2) 0 v') (by unfold At; omega) (fun k hk e => ?_)
    obtain ⟨cs, e'⟩ := hBd1.typed k hk
    rw [show k = s + 2 from e, b2] at e'
    cases e'
  · simpa using heap_set b2 0 v'
  · rw [List.length_append, List.map_append]
    exact hown'.kept (row := some (s + 2)) ⟨rfl, rfl, rfl, by simp, fun k _ hk => Below.heap_setCell _ _ _ _ (fun e => hk (by simp [e]))⟩ (.inr (fun e => (hne3 _ e).1 rfl))
  · intro k hk e
    rcases hX' k e with e2 | e2
    · exact hGX k hk e2
    · have := hBd.ltG k hk; omega
  · have hp : Code.textOf page (Bs ++ [d]) = Code.textOf page Bs ++ Code.piece page d := Code.textOf_snoc page Bs d
    rw [hp, List.map_append, List.map_singleton, textC_snoc, ← htext, hd, List.append_assoc]
  · rw [List.length_append, List.length_append, List.length_singleton, List.length_singleton]; omega
  · rw [List.length_append, List.length_append, List.length_singleton, List.length_singleton]; omega
  · intro y hy
    rcases List.mem_append.1 hy with hy | hy
    · exact hby y hy
    · rw [List.mem_singleton.1 hy]; exact hd0
  · intro k hk
    rcases hX' k hk with e2 | e2
    · exact hXs k e2
    · have := lt_of_block h.pg; omega
end
end Go.Proofs.Ytgjhboikfbafcaa.Pl
