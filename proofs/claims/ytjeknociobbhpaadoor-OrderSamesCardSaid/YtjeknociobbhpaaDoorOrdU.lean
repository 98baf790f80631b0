/-
  A row of orders behind another (append with a spread row).
-/
import Derived.Test.YtjeknociobbhpaaDoorOrdT
namespace Go.Proofs.YtjeknociobbhpaaDoor.Ord
open Go.RowKit Base
set_option linter.unusedVariables false
set_option linter.unusedSimpArgs false

theorem ordC_len (P : List OrdP) : (ordC P).length = P.length * 6 := by
  induction P with
  | nil => rfl
  | cons p P ih =>
    show ([_, _, _, _, _, _] ++ ordC P).length = _
    rw [List.length_append, ih]
    simp
    omega
theorem ordC_one {P : List OrdP} (h : ∀ p ∈ P, (∃ a n c, p.2.1 = .slice a n c) ∧ ∃ a n c, p.2.2 = .slice a n c) : ∀ u ∈ ordC P, u.oneCell' = true := by
  intro u hu
  obtain ⟨p, hp, hu⟩ := List.mem_flatMap.1 hu
  obtain ⟨⟨a, n, c, e1⟩, b, m, d, e2⟩ := h p hp
  rw [e1, e2] at hu
  simp at hu
  rcases hu with rfl | rfl | rfl | rfl | rfl | rfl <;> rfl
/-- Orders whose parts lie below a place. -/
def LowP (s : Nat) (w : World) (P : List OrdP) : Prop := ∀ p ∈ P, PrLow s w p.2.1 p.1.pairs ∧ RowIn (fun k => k < s) .u8 w p.2.2 p.1.data
theorem OrdsOwn.lowP {b : Nat} {w : World} {v : Value} {P : List OrdP} (h : OrdsOwn b w v P) : LowP w.heap.size w P := fun p hp => by
  obtain ⟨h1, h2⟩ := h.own p hp
  exact ⟨h1.at.low, h2.row.lowK⟩
theorem LowP.keep {s : Nat} {w w' : World} {P : List OrdP} (h : LowP s w P) (hk : ∀ g, g < s → g < w.heap.size → w'.heap[g]? = w.heap[g]?) (hsz : w.heap.size ≤ w'.heap.size) : LowP s w' P := fun p hp => by
  obtain ⟨h1, h2⟩ := h p hp
  refine ⟨h1.keep hk, ?_⟩
  obtain ⟨a, c, e, hr⟩ := h2
  refine ⟨a, c, e, fun hne => ?_⟩
  obtain ⟨g, off, rfl, hg, hl, hi⟩ := hr hne
  exact ⟨g, off, rfl, hg, Nat.lt_of_lt_of_le hl hsz, fun i h => (cell_block (hk g hg hl) _).trans (hi i h)⟩
theorem LowP.jq {s : Nat} {w : World} {v : Value} {P : List OrdP} (h : LowP s w P) (hr : w.ownsRow s 35 6 v P.length (ordC P)) : JQ s w v P := ⟨hr, fun p hp => ⟨(h p hp).1, .inl (h p hp).2⟩⟩
section
variable {ops : Array Oper} {rest : List Oper} {o : Oper} {a : Act} {w : World} {Q : Exit → Act → World → Prop}
theorem wp_append_ords {K : Act → World → Prop} (s x : Operand) (ho : o.op = .call { callee := .builtin .append, args := #[s, x], argTypes := #[25, 25] })
    {base b n : Nat} {v u : Value} {X : List Value} {P : List OrdP} (hown : w.ownsRow base 35 6 v n X) (hr : OrdsOwn b w u P) (hs : a.eval s = v) (hx : a.eval x = u)
    (hm : n + P.length ≤ 100000) (hb : base ≤ w.heap.size)
    (h : ∀ v' w', w'.ownsRow base 35 6 v' (n + P.length) (X ++ ordC P) → w.grownBy w' v.ownBlock → K (a.put o.dst v') w') : o.wp Tryd.prog a w K Q := by
  obtain ⟨i0, hi, hz0, hz1, hz2⟩ := info_parts info_ords
  rcases hr.row.2 with ⟨rfl, h0⟩ | ⟨g, cap, cur, rfl, _⟩
  · have hP : P = [] := List.eq_nil_of_length_eq_zero h0
    subst hP
    have hrun := run_append_owned_none (P := Tryd.prog) (w := w) base 25 o.type 35 i0 6 Tryd.underlying25 hi v n _ hown
    unfold Oper.wp
    simp [execOp, ho, resolve, invoke, builtin, hs, hx, hrun, Result.andThen]
    exact h v w (by simpa [ordC] using hown) ⟨rfl, rfl, rfl, Nat.le_refl _, fun _ _ _ => rfl⟩
  · refine wp_append_own _ s x 25 ho base 35 i0 (.agg #[.int .u8 0, .int .i64 0, .int .u8 0, .bool false, .slice none 0 0, .slice none 0 0]) 6 72 Tryd.underlying25 hi hz0 hz1 hz2 rfl (by decide) v n X hs hown ⟨g, 0, none⟩ P.length cap (ordC P) hx (ordC_len P) (fun j u hu => World.ownsRow.cells hr.row (g := g) rfl j _ hu) (ordC_one fun p hp => ?_) (by unfold maxLen; omega) (by omega) hb ?_
    · obtain ⟨h1, h2⟩ := hr.own p hp
      obtain ⟨a1, c1, e1⟩ := h1.slice
      obtain ⟨a2, c2, e2⟩ := h2.slice
      exact ⟨⟨_, _, _, e1⟩, _, _, _, e2⟩
    · intro v' w' hown' hgrow _
      exact h v' w' hown' hgrow
theorem append_ords (hw : Region.wanted o (yielded ops a.tmps) = true) (s x : Operand) (ho : o.op = .call { callee := .builtin .append, args := #[s, x], argTypes := #[25, 25] })
    {base b n : Nat} {v u : Value} {X : List Value} {P : List OrdP} (hown : w.ownsRow base 35 6 v n X) (hr : OrdsOwn b w u P) (hs : a.eval s = v) (hx : a.eval x = u)
    (hm : n + P.length ≤ 100000) (hb : base ≤ w.heap.size)
    (h : ∀ v' w', w'.ownsRow base 35 6 v' (n + P.length) (X ++ ordC P) → w.grownBy w' v.ownBlock → wpList Tryd.prog ops Q rest (a.put o.dst v') w') : wpList Tryd.prog ops Q (o :: rest) a w := by
  refine wpList_step fun K hK => ?_
  rw [if_pos hw]
  exact wp_append_ords s x ho hown hr hs hx hm hb fun v' w' h1 h2 => hK _ _ (h v' w' h1 h2)
end
end Go.Proofs.YtjeknociobbhpaaDoor.Ord
