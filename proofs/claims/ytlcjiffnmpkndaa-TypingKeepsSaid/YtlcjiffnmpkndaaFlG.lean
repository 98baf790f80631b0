/-
  No field is modified any more.
-/
import Derived.Test.YtlcjiffnmpkndaaFlF
namespace Go.Proofs.Ytlcjiffnmpkndaa.Pl
open Go.RowKit Go.Shelf Base
attribute [local go_sem] Oper.semAt_some
set_option linter.unusedVariables false
set_option linter.unusedSimpArgs false

theorem atL_setL (L : List Cl) (s : Int) (x : Cl) (i : Int) : atL (setL L s x) i = if i = s ∧ 0 ≤ s ∧ s < L.length then x else atL L i := by
  unfold atL setL
  by_cases hs : 0 ≤ s ∧ s < L.length
  · rw [if_pos hs]
    simp only [List.length_set]
    by_cases hi : 0 ≤ i ∧ i < L.length
    · rw [if_pos hi, if_pos hi]
      by_cases he : i = s
      · subst he; rw [if_pos ⟨rfl, hs⟩, List.getElem?_set_self (by omega)]; rfl
      · rw [if_neg (fun h => he h.1), List.getElem?_set_ne (by omega)]
    · rw [if_neg hi, if_neg hi, if_neg (by rintro ⟨rfl, _⟩; exact hi hs)]
  · rw [if_neg hs]
    by_cases hi : 0 ≤ i ∧ i < L.length
    · rw [if_pos hi, if_neg (fun h => hs h.2)]
    · rw [if_neg hi, if_neg (fun h => hs h.2)]
theorem modL_length (L : List Cl) (s : Int) (on : Bool) : (modL L s on).length = L.length := setL_length _ _ _
theorem modL_st (L : List Cl) (s : Int) (on : Bool) (i : Int) : (atL (modL L s on) i).st = (atL L i).st := by
  unfold modL
  rw [atL_setL]
  split
  · next h => rw [h.1]; rfl
  · rfl
theorem modL_bo {L : List Cl} (h : BoL L) (s : Int) (on : Bool) : BoL (modL L s on) := by
  intro i
  unfold modL
  rw [atL_setL]
  split
  · exact modify_b (h s).1 (h s).2 on
  · exact h i
/-- Behind fields that were looked at: those that were modified aren't. -/
def unmL (L : List Cl) : List Fd → List Cl := fun pre => pre.foldl (fun M f => if Attr.modi f.a then modL M f.s false else M) L
def unmN (pre : List Fd) : Nat := (pre.filter fun f => Attr.modi f.a).length
theorem unmL_snoc (L : List Cl) (pre : List Fd) (f : Fd) : unmL L (pre ++ [f]) = if Attr.modi f.a then modL (unmL L pre) f.s false else unmL L pre := by simp [unmL, List.foldl_append]
theorem unmN_snoc (pre : List Fd) (f : Fd) : unmN (pre ++ [f]) = unmN pre + if Attr.modi f.a then 1 else 0 := by
  unfold unmN; rw [List.filter_append]; simp [List.filter_cons]; split <;> simp
theorem foldl_keep {β : Type} {P : List Cl → Prop} (L : List Cl) (F : List Cl → β → List Cl) (h0 : P L) (h : ∀ M f, P M → P (F M f)) (pre : List β) : P (pre.foldl F L) := by
  induction pre generalizing L with
  | nil => exact h0
  | cons f fs ih => exact ih (F L f) (h L f h0)
theorem unmL_keeps (L : List Cl) (hB : BoL L) (pre : List Fd) : (∀ i, (atL (unmL L pre) i).st = (atL L i).st) ∧ (unmL L pre).length = L.length ∧ BoL (unmL L pre) := by
  unfold unmL
  refine foldl_keep (P := fun M => (∀ i, (atL M i).st = (atL L i).st) ∧ M.length = L.length ∧ BoL M) L _ ⟨fun _ => rfl, rfl, hB⟩ (fun M f h => ?_) pre
  split
  · exact ⟨fun i => (modL_st _ _ _ i).trans (h.1 i), (modL_length _ _ _).trans h.2.1, modL_bo h.2.2 _ _⟩
  · exact h
def unmF (L : List Cl) : List Fd := allK L (unmL L) L.length

structure UI (w : World) (b g : Nat) (r c cur : Int) (L : List Cl) (pre : List Fd) (W : World) : Prop where
  pl : PlAt W b g r c cur (unmL L pre)
  b0 : W.heap[w.heap.size]? = some (.cells #[.pointer (some ⟨b, 0, none⟩)] 27 (0, 0))
  b1 : W.heap[w.heap.size + 1]? = some (.cells #[.int .i64 (unmN pre)] 3 (0, 0))
  tn : Turn (At g) w W
  lb : b < w.heap.size
  lg : g < w.heap.size
section
variable {w : World} {b g : Nat} {r c cur : Int} {L : List Cl} {pre : List Fd} {W W' : World}
theorem UI.own (B : Nat) (hB : w.heap.size ≤ B) : OwnFrom B (UI w b g r c cur L) := by
  intro s X Y row h hg hr
  have hr' : ∀ r, row = some r → ∃ o : Obj, X.heap[r]? = some o ∧ o.isCells = false := fun r e => (hr r e).2
  exact ⟨h.pl.grown hg hr', (cells_kept h.b0 hg hr').trans h.b0, (cells_kept h.b1 hg hr').trans h.b1, h.tn.grown hg (fun k e => .inl (by have := (hr k e).1; omega)), h.lb, h.lg⟩
theorem UI.step (h : UI w b g r c cur L pre W) (f : Fd) (hm : Attr.modi f.a = true) (hp : PlAt W' b g r c cur (modL (unmL L pre) f.s false)) (t : Turn (At g) W W') :
    UI w b g r c cur L (pre ++ [f]) (W'.setCell ⟨w.heap.size + 1, 0, none⟩ (.int .i64 ((unmN pre : Int) + 1))) ∧ Turn (Or2 (At g) (At (w.heap.size + 1))) W (W'.setCell ⟨w.heap.size + 1, 0, none⟩ (.int .i64 ((unmN pre : Int) + 1))) := by
  have hb := h.lb
  have hg := h.lg
  have c0 := (t.block _ (lt_of_block h.b0) (by unfold At; omega)).trans h.b0
  have c1 := (t.block _ (lt_of_block h.b1) (by unfold At; omega)).trans h.b1
  have ts := turn_set W' (w.heap.size + 1) 0 (.int .i64 ((unmN pre : Int) + 1))
  refine ⟨⟨?_, ?_, ?_, ?_, hb, hg⟩, (t.mono fun k hk => .inl hk).trans (ts.mono fun k hk => .inr hk)⟩
  · rw [unmL_snoc, if_pos hm]
    exact hp.turn ts (by unfold At; omega) (by unfold At; omega)
  · exact (ts.block _ (lt_of_block c0) (by unfold At; omega)).trans c0
  · rw [heap_set c1 0 _, unmN_snoc, if_pos hm]
    simp
  · have ht2 : Turn (fun k => k = g ∨ w.heap.size ≤ k) w (W'.setCell ⟨w.heap.size + 1, 0, none⟩ (.int .i64 ((unmN pre : Int) + 1))) := (((h.tn.trans t).mono fun k hk => .inl hk)).trans (ts.mono fun k hk => .inr (by rw [show k = w.heap.size + 1 from hk]; omega))
    exact ⟨ht2.os, ht2.tape, ht2.output, ht2.size, fun k hk hn => ht2.block k hk (by rintro (e | e); exact hn e; omega)⟩
theorem UI.same (h : UI w b g r c cur L pre W) (f : Fd) (hm : Attr.modi f.a = false) : UI w b g r c cur L (pre ++ [f]) W := by
  refine ⟨?_, h.b0, ?_, h.tn, h.lb, h.lg⟩
  · rw [unmL_snoc, if_neg (by simp [hm])]; exact h.pl
  · rw [unmN_snoc, if_neg (by simp [hm])]; exact h.b1
end
theorem zero_fd : (Try.prog.info? 74).map (fun i => (i.zero, i.size)) = some (some (.agg #[.int .i64 0, .int .i64 0, .int .u8 0]), 3) := by kernel_rfl
theorem begF_a (L : List Cl) (hB : BoL L) (s : Int) : 0 ≤ (begF L s).a ∧ (begF L s).a ≤ 255 := by
  have := hB s
  show 0 ≤ (atL L s).b % 64 ∧ (atL L s).b % 64 ≤ 255
  omega
theorem mem_allK {L : List Cl} {Lf : List Fd → List Cl} : ∀ (n : Nat) (f : Fd), f ∈ allK L Lf n → ∃ i pre, i < n ∧ (atL L (i : Nat)).st = true ∧ f = begF (Lf pre) i
  | 0, f, h => by simp [allK] at h
  | n + 1, f, h => by
    cases hs : (atL L n).st with
    | true =>
      rw [allK_succ_yes hs] at h
      rcases List.mem_append.1 h with h | h
      · obtain ⟨i, pre, h1, h2, h3⟩ := mem_allK n f h; exact ⟨i, pre, by omega, h2, h3⟩
      · exact ⟨n, _, by omega, hs, by simpa using h⟩
    | false =>
      rw [allK_succ_no hs] at h
      obtain ⟨i, pre, h1, h2, h3⟩ := mem_allK n f h; exact ⟨i, pre, by omega, h2, h3⟩
theorem allK_most (L : List Cl) (Lf : List Fd → List Cl) : ∀ n, (allK L Lf n).length ≤ n
  | 0 => by simp [allK]
  | n + 1 => by
    have := allK_most L Lf n
    cases hs : (atL L n).st with
    | true => rw [allK_succ_yes hs]; simp; omega
    | false => rw [allK_succ_no hs]; omega
end Go.Proofs.Ytlcjiffnmpkndaa.Pl
