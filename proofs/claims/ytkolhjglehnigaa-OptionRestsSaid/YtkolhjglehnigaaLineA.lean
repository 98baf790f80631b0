/-
  Two sides of options, and the words that are on their way to each of them, in memory.
-/
import Derived.Test.YtkolhjglehnigaaQueA
import Derived.Test.YtkolhjglehnigaaProto
import Derived.Test.YtkolhjglehnigaaOptE
import Derived.Deep.RegionLaw
import Derived.Deep.WholeRow
namespace Go.Proofs.Ytkolhjglehnigaa.Que
open Go.RowKit Base Opt
set_option linter.unusedVariables false

/-- Words in a queue. -/
def WQ (s : Nat) (w : World) (v : Value) (L : List Wd) : Prop :=
  ∃ us, QRow s w v us ∧ us.length = L.length ∧ ∀ (i : Nat) (x : Wd), L[i]? = some x → ∃ u, us[i]? = some u ∧ RowIn (fun k => s ≤ k) .u8 w u [255, x.1, (x.2 : Int)]
theorem row_not {S : Nat → Prop} {w w' : World} {u : Value} {X : List Int} (h : RowIn S .u8 w u X) (g : Nat) (hg : ∀ o k, w.cell? ⟨g, o, none⟩ ≠ some (.int .u8 k)) (hk : ∀ k, k < w.heap.size → k ≠ g → w'.heap[k]? = w.heap[k]?) (hsz : w.heap.size ≤ w'.heap.size) : RowIn S .u8 w' u X := by
  obtain ⟨a, cap, rfl, hr⟩ := h
  refine ⟨a, cap, rfl, fun hne => ?_⟩
  obtain ⟨b, off, ha, hS, hlt, hc⟩ := hr hne
  have h0 : 0 < X.length := by cases X with | nil => exact absurd rfl hne | cons => simp
  have hbg : b ≠ g := fun e => by
    have := hc 0 h0
    rw [e] at this
    exact hg _ _ this
  exact ⟨b, off, ha, hS, Nat.lt_of_lt_of_le hlt hsz, fun i hi => (cell_block (hk b hlt hbg) _).trans (hc i hi)⟩
section
variable {s : Nat} {w w' : World} {v : Value} {L : List Wd}
theorem WQ.nil (s : Nat) (w : World) : WQ s w (.slice none 0 0) [] := ⟨[], QRow.nil s w, rfl, fun i x h => by simp at h⟩
theorem WQ.form (h : WQ s w v L) : ∃ a c, v = .slice a L.length c := by
  obtain ⟨us, h1, h2, _⟩ := h
  rw [← h2]; exact h1.form
theorem WQ.turn {T : Nat → Prop} (h : WQ s w v L) (t : Turn T w w') (hT : ∀ k, T k → k < s) : WQ s w' v L := by
  obtain ⟨us, h1, h2, h3⟩ := h
  refine ⟨us, h1.keep fun g hg => ?_, h2, fun i x hx => ?_⟩
  · obtain ⟨hs, hl, _⟩ := h1.block g hg
    exact t.block g hl fun e => by have := hT g e; omega
  · obtain ⟨u, hu, hr⟩ := h3 i x hx
    exact ⟨u, hu, hr.turn t fun b hb e => by have := hT b e; omega⟩
theorem WQ.below (h : WQ s w v L) (t : Below w.heap.size w w') : WQ s w' v L := h.turn (Turn.of_below t) fun k hk => absurd hk id
/-- What is appended to another queue. -/
theorem WQ.other {v1 : Value} {us1 : List Value} (h : WQ s w v L) (h1 : QRow s w v1 us1) (hne : blk v = none ∨ blk v ≠ blk v1) (g : w.grownBy w' (blk v1)) : WQ s w' v L := by
  obtain ⟨us, hq, h2, h3⟩ := h
  refine ⟨us, hq.keep fun b hb => ?_, h2, fun i x hx => ?_⟩
  · obtain ⟨_, hl, _⟩ := hq.block b hb
    refine g.block b hl fun e => ?_
    rcases hne with hn | hn
    · rw [hn] at hb; cases hb
    · exact hn (hb.trans e)
  · obtain ⟨u, hu, hr⟩ := h3 i x hx
    cases hb : blk v1 with
    | none => exact ⟨u, hu, hr.turn (T := fun _ => False) ⟨g.os, g.tape, g.output, g.size, fun k hk _ => g.block k hk (by rw [hb]; simp)⟩ fun _ _ e => e⟩
    | some b =>
      obtain ⟨_, _, hno⟩ := h1.block b hb
      exact ⟨u, hu, row_not hr b hno (fun k hk hne => g.block k hk (by rw [hb]; simpa using hne)) g.size⟩
/-- A word appended. -/
theorem run_word (h : WQ s w v L) (hs : s ≤ w.heap.size) (ty : TypeId) (ga c : Nat) (u : Value) (x : Wd) (hu : w.cell? ⟨ga, 0, none⟩ = some u) (hr : RowIn (fun k => s ≤ k) .u8 w u [255, x.1, (x.2 : Int)]) (hl : L.length ≤ 100000) :
    ∃ v' w', (Builtin.append_ #[46, 46] ty #[v, .slice (some ⟨ga, 0, none⟩) 1 c]).run Try.prog w = .ok v' w' ∧ WQ s w' v' (L ++ [x]) ∧ w.grownBy w' (blk v) ∧ (blk v' = blk v ∨ ∃ g, blk v' = some g ∧ w.heap.size ≤ g) ∧ (∀ g, blk v = some g → s ≤ g) ∧ ∃ us, QRow s w v us := by
  obtain ⟨us, hq, h2, h3⟩ := h
  have hform : ∃ a c, u = .slice a 3 c := by obtain ⟨a, c, e, _⟩ := hr; exact ⟨a, c, e⟩
  obtain ⟨ua, uc, rfl⟩ := hform
  obtain ⟨v', w', hrun, hq', hg, hb⟩ := run_q hq hs ty ga c (.slice ua 3 uc) hu rfl (fun k e => by cases e) (by omega)
  have keep : ∀ (u : Value) (X : List Int), RowIn (fun k => s ≤ k) .u8 w u X → RowIn (fun k => s ≤ k) .u8 w' u X := by
    intro u X hr
    cases hbv : blk v with
    | none => exact hr.turn (T := fun _ => False) ⟨hg.os, hg.tape, hg.output, hg.size, fun k hk _ => hg.block k hk (by rw [hbv]; simp)⟩ fun _ _ e => e
    | some b =>
      obtain ⟨_, _, hno⟩ := hq.block b hbv
      exact row_not hr b hno (fun k hk hne => hg.block k hk (by rw [hbv]; simpa using hne)) hg.size
  refine ⟨v', w', hrun, ⟨us ++ [.slice ua 3 uc], hq', by simp [h2], fun i y hy => ?_⟩, hg, hb, fun g hg => (hq.block g hg).1, us, hq⟩
  rcases Nat.lt_or_ge i L.length with hi | hi
  · rw [List.getElem?_append_left hi] at hy
    obtain ⟨u', hu', hr'⟩ := h3 i y hy
    exact ⟨u', by rw [List.getElem?_append_left (by omega)]; exact hu', keep _ _ hr'⟩
  · obtain ⟨hlt, _⟩ := List.getElem?_eq_some_iff.1 hy
    have hi' : i = L.length := by simp at hlt; omega
    subst hi'
    rw [List.getElem?_append_right (Nat.le_refl _)] at hy
    simp at hy
    subst hy
    exact ⟨.slice ua 3 uc, by rw [List.getElem?_append_right (by omega), h2]; simp, keep _ _ hr⟩
end
/-! ### The two sides -/
structure LN (w : World) (l bA bB s : Nat) (MA MB : Nat → Bool) (SA SB : Nat → Nat) (ab ba : List Wd) (n : Nat) (qA qB : Value) (W : World) : Prop where
  ln : W.heap[l]? = some (.cells #[.pointer (some ⟨bA, 0, none⟩), .pointer (some ⟨bB, 0, none⟩), qA, qB, .int .i64 n] 49 (0, 0))
  oa : OptAt W bA MA SA
  ob : OptAt W bB MB SB
  wa : WQ s W qA ba
  wb : WQ s W qB ab
  la : Le5 SA
  lb : Le5 SB
  ne : blk qA = none ∨ blk qA ≠ blk qB
  hl : l < s
  hA : bA < s
  hB : bB < s
  nA : l ≠ bA
  nB : l ≠ bB
  nAB : bA ≠ bB
  sz : s ≤ W.heap.size
  old : Below w.heap.size w W
  lol : w.heap.size ≤ l
  loA : w.heap.size ≤ bA
  loB : w.heap.size ≤ bB
section
variable {w W W' : World} {l bA bB s n : Nat} {MA MB : Nat → Bool} {SA SB SA' SB' : Nat → Nat} {ab ba : List Wd} {qA qB : Value}
theorem LN.cells (h : LN w l bA bB s MA MB SA SB ab ba n qA qB W) : W.cell? ⟨l, 0, none⟩ = some (.pointer (some ⟨bA, 0, none⟩)) ∧ W.cell? ⟨l, 1, none⟩ = some (.pointer (some ⟨bB, 0, none⟩)) ∧ W.cell? ⟨l, 2, none⟩ = some qA ∧ W.cell? ⟨l, 3, none⟩ = some qB ∧ W.cell? ⟨l, 4, none⟩ = some (.int .i64 n) ∧ ∀ o, W.frozen? ⟨l, o, none⟩ = false := by
  simp [World.cell?, World.frozen?, h.ln]
theorem LN.below (h : LN w l bA bB s MA MB SA SB ab ba n qA qB W) (t : Below W.heap.size W W') : LN w l bA bB s MA MB SA SB ab ba n qA qB W' :=
  ⟨(t.block l (lt_of_block h.ln)).trans h.ln, (t.block bA (lt_of_block h.oa)).trans h.oa, (t.block bB (lt_of_block h.ob)).trans h.ob, h.wa.below t, h.wb.below t, h.la, h.lb, h.ne, h.hl, h.hA, h.hB, h.nA, h.nB, h.nAB, Nat.le_trans h.sz t.size, h.old.trans (t.mono h.old.size), h.lol, h.loA, h.loB⟩
theorem LN.turnA (h : LN w l bA bB s MA MB SA SB ab ba n qA qB W) (t : Turn (At bA) W W') (k : OptAt W' bA MA SA') (hl : Le5 SA') : LN w l bA bB s MA MB SA' SB ab ba n qA qB W' := by
  have h1 := h.hA
  have hT : ∀ k, At bA k → k < s := fun k hk => by have : k = bA := hk; omega
  exact ⟨(t.block l (lt_of_block h.ln) (fun e => h.nA e)).trans h.ln, k, (t.block bB (lt_of_block h.ob) (fun e => h.nAB e.symm)).trans h.ob, h.wa.turn t hT, h.wb.turn t hT, hl, h.lb, h.ne, h.hl, h.hA, h.hB, h.nA, h.nB, h.nAB, Nat.le_trans h.sz t.size, h.old.trans (t.at_below h.old.size h.loA), h.lol, h.loA, h.loB⟩
theorem LN.turnB (h : LN w l bA bB s MA MB SA SB ab ba n qA qB W) (t : Turn (At bB) W W') (k : OptAt W' bB MB SB') (hl : Le5 SB') : LN w l bA bB s MA MB SA SB' ab ba n qA qB W' := by
  have h1 := h.hB
  have hT : ∀ k, At bB k → k < s := fun k hk => by have : k = bB := hk; omega
  exact ⟨(t.block l (lt_of_block h.ln) (fun e => h.nB e)).trans h.ln, (t.block bA (lt_of_block h.oa) (fun e => h.nAB e)).trans h.oa, k, h.wa.turn t hT, h.wb.turn t hT, h.la, hl, h.ne, h.hl, h.hA, h.hB, h.nA, h.nB, h.nAB, Nat.le_trans h.sz t.size, h.old.trans (t.at_below h.old.size h.loB), h.lol, h.loA, h.loB⟩
/-- The line's own block turned. -/
theorem LN.lineA {ba' : List Wd} {qA' : Value} {n' : Nat} (h : LN w l bA bB s MA MB SA SB ab ba n qA qB W) (t : Turn (At l) W W') (hl : W'.heap[l]? = some (.cells #[.pointer (some ⟨bA, 0, none⟩), .pointer (some ⟨bB, 0, none⟩), qA', qB, .int .i64 n'] 49 (0, 0))) (hw : WQ s W qA' ba') (hne : blk qA' = none ∨ blk qA' ≠ blk qB) : LN w l bA bB s MA MB SA SB ab ba' n' qA' qB W' := by
  have h1 := h.hl
  have hT : ∀ k, At l k → k < s := fun k hk => by have : k = l := hk; omega
  exact ⟨hl, (t.block bA (lt_of_block h.oa) (fun e => h.nA e.symm)).trans h.oa, (t.block bB (lt_of_block h.ob) (fun e => h.nB e.symm)).trans h.ob, hw.turn t hT, h.wb.turn t hT, h.la, h.lb, hne, h.hl, h.hA, h.hB, h.nA, h.nB, h.nAB, Nat.le_trans h.sz t.size, h.old.trans (t.at_below h.old.size h.lol), h.lol, h.loA, h.loB⟩
theorem LN.lineB {ab' : List Wd} {qB' : Value} {n' : Nat} (h : LN w l bA bB s MA MB SA SB ab ba n qA qB W) (t : Turn (At l) W W') (hl : W'.heap[l]? = some (.cells #[.pointer (some ⟨bA, 0, none⟩), .pointer (some ⟨bB, 0, none⟩), qA, qB', .int .i64 n'] 49 (0, 0))) (hw : WQ s W qB' ab') (hne : blk qA = none ∨ blk qA ≠ blk qB') : LN w l bA bB s MA MB SA SB ab' ba n' qA qB' W' := by
  have h1 := h.hl
  have hT : ∀ k, At l k → k < s := fun k hk => by have : k = l := hk; omega
  exact ⟨hl, (t.block bA (lt_of_block h.oa) (fun e => h.nA e.symm)).trans h.oa, (t.block bB (lt_of_block h.ob) (fun e => h.nB e.symm)).trans h.ob, h.wa.turn t hT, hw.turn t hT, h.la, h.lb, hne, h.hl, h.hA, h.hB, h.nA, h.nB, h.nAB, Nat.le_trans h.sz t.size, h.old.trans (t.at_below h.old.size h.lol), h.lol, h.loA, h.loB⟩
/-- All but a queue's own block stands. -/
theorem LN.grown {r : Option Nat} (h : LN w l bA bB s MA MB SA SB ab ba n qA qB W) (g : W.grownBy W' r) (hr : ∀ k, r = some k → s ≤ k) : W'.heap[l]? = W.heap[l]? ∧ W'.heap[bA]? = W.heap[bA]? ∧ W'.heap[bB]? = W.heap[bB]? ∧ Below w.heap.size w W' := by
  have h1 := h.hl; have h2 := h.hA; have h3 := h.hB; have h4 := h.lol
  refine ⟨g.block l (lt_of_block h.ln) fun e => ?_, g.block bA (lt_of_block h.oa) fun e => ?_, g.block bB (lt_of_block h.ob) fun e => ?_, h.old.trans ⟨g.os, g.tape, g.output, g.size, fun k hk => g.block k (by have := h.old.size; omega) fun e => ?_⟩⟩
  · have := hr l e.symm; omega
  · have := hr bA e.symm; omega
  · have := hr bB e.symm; omega
  · have := hr k e.symm; omega
end
/-- append of one word to a queue, as one step of a region. -/
theorem step_word {ops : Array Oper} {o : Oper} {a : Act} {w : World} {K : Act → World → Prop} {Q : Exit → Act → World → Prop} {E : Prop} (hgd : o.guard = none) (p q : Operand)
    (ho : o.op = .call { callee := .builtin .append, args := #[p, q], argTypes := #[46, 46] }) {s : Nat} {v : Value} {L : List Wd} (h : WQ s w v L) (hs : s ≤ w.heap.size) (ga c : Nat) (u : Value) (x : Wd)
    (hp : a.eval p = v) (hq : a.eval q = .slice (some ⟨ga, 0, none⟩) 1 c) (hu : w.cell? ⟨ga, 0, none⟩ = some u) (hr : RowIn (fun k => s ≤ k) .u8 w u [255, x.1, (x.2 : Int)]) (hl : L.length ≤ 100000)
    (hK : ∀ v' w', WQ s w' v' (L ++ [x]) → w.grownBy w' (blk v) → (blk v' = blk v ∨ ∃ g, blk v' = some g ∧ w.heap.size ≤ g) → (∀ g, blk v = some g → s ≤ g) → (∃ us, QRow s w v us) → K (a.put o.dst v') w') :
    if Region.wanted o (yielded ops a.tmps) = true then Oper.wp Try.prog o a w K Q else E := by
  have hw : Region.wanted o (yielded ops a.tmps) = true := by simp [Region.wanted, hgd]
  rw [if_pos hw]
  obtain ⟨v', w', hrun, h1, h2, h3, h4, h5⟩ := run_word h hs o.type ga c u x hu hr hl
  unfold Oper.wp
  simp [execOp, ho, resolve, invoke, builtin, hp, hq, hrun, Result.andThen]
  exact hK v' w' h1 h2 h3 h4 h5
end Go.Proofs.Ytkolhjglehnigaa.Que
