/-
  The law's places: a field's places, as far as is asked for.
-/
import Derived.Test.YtlcjiffnmpkndaaFlJ
namespace Go.Proofs.Ytlcjiffnmpkndaa.Pl
open Go.RowKit Go.Shelf Base
attribute [local go_sem] Oper.semAt_some
set_option linter.unusedVariables false
set_option linter.unusedSimpArgs false

theorem info_int' : (Try.prog.info? 3).map (fun i => (i.zero, i.size, i.bytes)) = some (some (.int .i64 0), 1, 8) := by kernel_rfl
structure LPI (w : World) (b g : Nat) (r c cur : Int) (L : List Cl) (f : Fd) (most : Int) (pre : List Int) (W : World) : Prop where
  pl : PlAt W b g r c cur L
  fb : W.heap[w.heap.size]? = some (.cells #[.int .i64 f.s, .int .i64 f.k, .int .u8 f.a] 74 (0, 0))
  mb : W.heap[w.heap.size + 1]? = some (.cells #[.int .i64 most] 3 (0, 0))
  gr : ∃ v, Gr W (w.heap.size + 2) (w.heap.size + 3) 44 3 1 pre.length (pre.map (Value.int .i64)) v
  it : PlcIt W (w.heap.size + 4) (w.heap.size + 5) b f
  tn : Turn (fun _ => False) w W
section
variable {w : World} {b g : Nat} {r c cur : Int} {L : List Cl} {f : Fd} {most : Int} {pre : List Int} {W W' : World}
theorem LPI.own (B : Nat) (hB : w.heap.size ≤ B) : OwnFrom B (LPI w b g r c cur L f most) := by
  intro s X Y row h hg hr
  have hr' : ∀ r, row = some r → ∃ o : Obj, X.heap[r]? = some o ∧ o.isCells = false := fun r e => (hr r e).2
  obtain ⟨v, hv⟩ := h.gr
  exact ⟨h.pl.grown hg hr', (cells_kept h.fb hg hr').trans h.fb, (cells_kept h.mb hg hr').trans h.mb, ⟨v, hv.grown hg hr'⟩, ⟨(cells_kept h.it.1 hg hr').trans h.it.1, (cells_kept h.it.2 hg hr').trans h.it.2⟩, h.tn.grown hg (fun k e => .inl (by have := (hr k e).1; omega))⟩
theorem LPI.next {v : Value} (h : LPI w b g r c cur L f most pre W) (hv : Gr W (w.heap.size + 2) (w.heap.size + 3) 44 3 1 pre.length (pre.map (Value.int .i64)) v) (x : Int) {o : Obj} {w1 : World} {v' : Value} {n' : Nat} {ys : List Value}
    (hgrow : (W.alloc o).grownBy w1 v.ownBlock) (hown' : w1.ownsRow 0 3 1 v' n' ys) (hn : n' = pre.length + 1) (hy : ys = pre.map (Value.int .i64) ++ [.int .i64 x]) (hat : v'.ownBlock = v.ownBlock ∨ v'.ownBlock = some (W.alloc o).heap.size) :
    LPI w b g r c cur L f most (pre ++ [x]) (w1.setCell ⟨w.heap.size + 3, 0, none⟩ v') ∧ Gr (w1.setCell ⟨w.heap.size + 3, 0, none⟩ v') (w.heap.size + 2) (w.heap.size + 3) 44 3 1 (pre ++ [x]).length ((pre ++ [x]).map (Value.int .i64)) v' ∧ Keep2 (w.heap.size + 4) (w.heap.size + 5) W (w1.setCell ⟨w.heap.size + 3, 0, none⟩ v') ∧ (∀ D, w.heap.size + 4 ≤ D → KeepsFrom D W (w1.setCell ⟨w.heap.size + 3, 0, none⟩ v')) ∧ w1.cell? ⟨w.heap.size + 3, 0, none⟩ = some v ∧ w1.frozen? ⟨w.heap.size + 3, 0, none⟩ = false ∧ w1.cell? ⟨w.heap.size + 1, 0, none⟩ = some (.int .i64 most) := by
  subst hn hy
  have l4 := lt_of_block h.it.1
  have l5 := lt_of_block h.it.2
  obtain ⟨g1, t1, c1, f1⟩ := hv.app (by decide) (by omega) (below_alloc W o) hgrow hown' hat
  have n4 := hv.not h.it.1 (by decide) (by omega)
  have n5 := hv.not h.it.2 (by decide) (by omega)
  obtain ⟨A, B, e1, e2⟩ := h.pl.blocks
  have hlt := h.pl.lt
  have ne : ∀ {k : Nat} {cs : Array Value} {ty : TypeId}, W.heap[k]? = some (.cells cs ty (0, 0)) → ty ≠ 44 → k ≠ w.heap.size + 3 := by
    rintro k cs ty hk h1 rfl
    rw [hv.bx] at hk; cases hk; exact h1 rfl
  have g2 : Gr (w1.setCell ⟨w.heap.size + 3, 0, none⟩ v') (w.heap.size + 2) (w.heap.size + 3) 44 3 1 (pre ++ [x]).length ((pre ++ [x]).map (Value.int .i64)) v' := by
    rw [List.map_append, List.length_append]; exact g1
  have k2 : Keep2 (w.heap.size + 4) (w.heap.size + 5) W (w1.setCell ⟨w.heap.size + 3, 0, none⟩ v') := Keep2.turn t1 l4 l5 n4 n5
  have m1 : w1.heap[w.heap.size + 1]? = some (.cells #[.int .i64 most] 3 (0, 0)) := (hgrow.block _ (Nat.lt_of_lt_of_le (lt_of_block h.mb) (below_alloc W o).size) (fun e => by have := hv.lo _ e.symm; omega)).trans (((below_alloc W o).block _ (lt_of_block h.mb)).trans h.mb)
  refine ⟨⟨?_, ?_, ?_, ⟨v', g2⟩, h.it.keep k2, ?_⟩, g2, k2, ?_, c1, f1, by simp [World.cell?, m1]⟩
  · exact h.pl.turn t1 (hv.not e1 (by decide) (ne e1 (by decide))) (hv.not e2 (by decide) (ne e2 (by decide)))
  · exact (t1.block _ (lt_of_block h.fb) (hv.not h.fb (by decide) (by omega))).trans h.fb
  · refine (t1.block _ (lt_of_block h.mb) ?_).trans h.mb
    rintro (e | e)
    · omega
    · have := hv.lo _ e; omega
  · have t2 : Turn (fun k => w.heap.size ≤ k) w (w1.setCell ⟨w.heap.size + 3, 0, none⟩ v') := (h.tn.mono fun k hk => hk.elim).trans (t1.mono fun k hk => by rcases hk with rfl | hk; exact Nat.le_add_right _ _; exact Nat.le_trans (Nat.le_add_right _ _) (hv.lo k hk))
    exact ⟨t2.os, t2.tape, t2.output, t2.size, fun k hk hn => t2.block k hk (by omega)⟩
  · intro D hD
    refine ⟨t1.size, fun k o' hk ho hc => (t1.block k (lt_of_block ho) ?_).trans ho⟩
    rintro (e | e)
    · omega
    · obtain ⟨cs, e'⟩ := row_typed hv.row k e; rw [ho] at e'; cases e'; cases hc
end
theorem take_all {α : Type} {xs : List α} {n : Nat} (h : xs.length ≤ n) : xs.take n = xs := List.take_of_length_le h
theorem prefix_take {α : Type} {pre xs : List α} (h : pre <+: xs) : xs.take pre.length = pre := by
  obtain ⟨t, rfl⟩ := h; simp
end Go.Proofs.Ytlcjiffnmpkndaa.Pl
