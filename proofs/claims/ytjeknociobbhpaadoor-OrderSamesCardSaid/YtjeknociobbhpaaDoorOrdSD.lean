/-
  Rows of orders that came in, behind rows of orders of the call's own (append).
-/
import Derived.Test.YtjeknociobbhpaaDoorOrdU
import Derived.Test.YtjeknociobbhpaaDoorOrdSA
import Derived.Test.YtjeknociobbhpaaDoorOpenO
namespace Go.Proofs.YtjeknociobbhpaaDoor.Ord
open Go.RowKit Base Go.Deep
set_option linter.unusedVariables false
set_option linter.unusedSimpArgs false

/-- A row of orders that can be read, with the slices that its orders have. -/
def InRow (w : World) (v : Value) (P : List OrdP) : Prop :=
  (∃ a cap, v = .slice a P.length cap ∧ (P ≠ [] → ∃ g off, a = some ⟨g, off, none⟩ ∧ g < w.heap.size ∧ ∀ i p, P[i]? = some p → OC g (off + i * 6) p.1 p.2.1 p.2.2 w)) ∧ ∀ p ∈ P, PrAt w p.2.1 p.1.pairs ∧ RowOf .u8 w p.2.2 p.1.data ∧ ∀ n c, p.2.2 = .slice none n c → c = 0
theorem OrdsAt2.rows {w : World} {v : Value} {L : List Or} (h : OrdsAt2 w v L) : ∃ P, P.map (·.1) = L ∧ InRow w v P := by
  obtain ⟨a, cap, rfl, hr⟩ := h
  by_cases hne : L = []
  · subst hne
    exact ⟨[], rfl, ⟨a, cap, rfl, fun h => absurd rfl h⟩, fun p hp => absurd hp (by simp)⟩
  obtain ⟨g, off, rfl, hg, hi⟩ := hr hne
  have one : ∀ i, i < L.length → ∃ q : Or × Value × Value, L[i]? = some q.1 ∧ OC g (off + i * 6) q.1 q.2.1 q.2.2 w ∧ PrAt w q.2.1 q.1.pairs ∧ RowOf .u8 w q.2.2 q.1.data ∧ ∀ n c, q.2.2 = .slice none n c → c = 0 := by
    intro i hl
    obtain ⟨vp, vd, h1, h2, h3, h4⟩ := hi i L[i] (List.getElem?_eq_getElem hl)
    exact ⟨(L[i], vp, vd), List.getElem?_eq_getElem hl, h1, h2, h3, h4⟩
  obtain ⟨f, hf⟩ := choose_lt one
  have hlen : ((List.range L.length).map f).length = L.length := by simp
  have hmap : ((List.range L.length).map f).map (·.1) = L := by
    apply List.ext_getElem?
    intro i
    by_cases hl : i < L.length
    · rw [(hf i hl).1]
      simp [hl]
    · simp [hl]
  refine ⟨(List.range L.length).map f, hmap, ⟨_, cap, by rw [hlen], fun _ => ⟨g, off, rfl, hg, fun i p hp => ?_⟩⟩, fun p hp => ?_⟩
  · obtain ⟨hi1, hi2⟩ := List.getElem?_eq_some_iff.1 hp
    simp at hi1 hi2
    obtain ⟨_, h1, _⟩ := hf i hi1
    rw [hi2] at h1
    exact h1
  · obtain ⟨i, hi, rfl⟩ := List.mem_map.1 hp
    obtain ⟨_, _, h2, h3, h4⟩ := hf i (List.mem_range.1 hi)
    exact ⟨h2, h3, h4⟩
theorem InRow.below {w w' : World} {v : Value} {P : List OrdP} (h : InRow w v P) (t : Below w.heap.size w w') : InRow w' v P := by
  obtain ⟨⟨a, cap, e, hr⟩, ho⟩ := h
  refine ⟨⟨a, cap, e, fun hne => ?_⟩, fun p hp => ?_⟩
  · obtain ⟨g, off, e2, hg, hi⟩ := hr hne
    exact ⟨g, off, e2, Nat.lt_of_lt_of_le hg t.size, fun i p hp => (hi i p hp).below t⟩
  · obtain ⟨h1, h2, h3⟩ := ho p hp
    exact ⟨h1.below t, h2.below t, h3⟩
theorem InRow.lowP {w : World} {v : Value} {P : List OrdP} (h : InRow w v P) : LowP w.heap.size w P := fun p hp => by
  obtain ⟨h1, h2, _⟩ := h.2 p hp
  exact ⟨h1.low, h2.lowK⟩
theorem ordC_at : ∀ (P : List OrdP) (j : Nat) (u : Value), (ordC P)[j]? = some u → ∃ i p, P[i]? = some p ∧ j / 6 = i ∧ j < P.length * 6 := by
  intro P j u h
  have hl := (List.getElem?_eq_some_iff.1 h).1
  rw [ordC_len] at hl
  exact ⟨j / 6, P[j / 6]'(by omega), List.getElem?_eq_getElem (by omega), rfl, hl⟩
theorem InRow.cells {w : World} {g off n c : Nat} {P : List OrdP} (h : InRow w (.slice (some ⟨g, off, none⟩) n c) P) (j : Nat) (u : Value) (hu : (ordC P)[j]? = some u) : w.cell? ((⟨g, off, none⟩ : Addr).add j) = some u := by
  obtain ⟨i, p, hp, hji, hjl⟩ := ordC_at P j u hu
  obtain ⟨⟨a, cap, e, hr⟩, _⟩ := h
  obtain ⟨g', off', e2, _, hi⟩ := hr (by intro e; rw [e] at hp; simp at hp)
  injection e with e3 _ _
  rw [e2] at e3
  injection e3 with e3
  injection e3 with e4 e5 _
  subst e4 e5
  obtain ⟨h0, h1, h2, h3, h4, h5⟩ := hi i p hp
  obtain ⟨f0, f1, f2, f3, f4, f5⟩ := ordC_get P i p hp
  rw [add_off]
  have hj : j = i * 6 + j % 6 := by omega
  have hlt : j % 6 < 6 := Nat.mod_lt _ (by omega)
  obtain ⟨r, hr6⟩ : ∃ r, r = j % 6 := ⟨_, rfl⟩
  rw [← hr6] at hj hlt
  subst hj
  rcases (by omega : r = 0 ∨ r = 1 ∨ r = 2 ∨ r = 3 ∨ r = 4 ∨ r = 5) with rfl | rfl | rfl | rfl | rfl | rfl
  · rw [Nat.add_zero] at hu; rw [f0] at hu; injection hu with hu; subst hu; simpa [Nat.add_assoc] using h0
  · rw [f1] at hu; injection hu with hu; subst hu; simpa [Nat.add_assoc] using h1
  · rw [f2] at hu; injection hu with hu; subst hu; simpa [Nat.add_assoc] using h2
  · rw [f3] at hu; injection hu with hu; subst hu; simpa [Nat.add_assoc] using h3
  · rw [f4] at hu; injection hu with hu; subst hu; simpa [Nat.add_assoc] using h4
  · rw [f5] at hu; injection hu with hu; subst hu; simpa [Nat.add_assoc] using h5
/-- Orders in a row of the call's own whose parts lie below it can be read. -/
theorem at2_of {s : Nat} {w : World} {v : Value} {P : List OrdP} (h : w.ownsRow s 35 6 v P.length (ordC P)) (hp : LowP s w P) (hz : ∀ p ∈ P, ∀ n c, p.2.2 = .slice none n c → c = 0) : OrdsAt2 w v (P.map (·.1)) := by
  rcases h.2 with ⟨rfl, hn⟩ | ⟨g, cap, cur, rfl, hg, hgb, hrest⟩
  · have : P = [] := List.eq_nil_of_length_eq_zero hn
    subst this
    exact ⟨none, 0, rfl, fun h => absurd rfl h⟩
  · refine ⟨some ⟨g, 0, none⟩, cap, by rw [List.length_map], fun hne => ⟨g, 0, rfl, lt_of_block hgb, fun i o ho => ?_⟩⟩
    rw [List.getElem?_map] at ho
    cases hpi : P[i]? with
    | none => rw [hpi] at ho; cases ho
    | some p =>
      rw [hpi] at ho
      obtain rfl : p.1 = o := by simpa using ho
      obtain ⟨f0, f1, f2, f3, f4, f5⟩ := ordC_get P i p hpi
      obtain ⟨hpp, hpd⟩ := hp p (List.mem_of_getElem? hpi)
      refine ⟨p.2.1, p.2.2, ?_, hpp.at, hpd.row, hz p (List.mem_of_getElem? hpi)⟩
      rw [show (0 : Nat) + i * 6 = i * 6 from Nat.zero_add _]
      exact ⟨own_cell h _ _ f0, own_cell h _ _ f1, own_cell h _ _ f2, own_cell h _ _ f3, own_cell h _ _ f4, own_cell h _ _ f5⟩
section
variable {ops : Array Oper} {rest : List Oper} {o : Oper} {a : Act} {w : World} {Q : Exit → Act → World → Prop}
theorem run_append_none_c {P : Go.Program} (base : Nat) (t ty e : TypeId) (i : TypeInfo) (size c : Nat) (ht : P.underlying t = some (.slice e)) (hi : P.info? e = some i)
    (v : Value) (n : Nat) (xs : List Value) (hown : w.ownsRow base e size v n xs) :
    (Builtin.append_ #[t, t] ty #[v, .slice none 0 c]).run P w = .ok v w := by
  rcases hown.2 with ⟨rfl, rfl⟩ | ⟨g, cap, cur, rfl, _, _, hnc, _⟩
  · simp [Builtin.append_, run_underlying ht, sizeOf, typeInfo, hi, Builtin.lenOf, Builtin.firstCells]
  · simp [Builtin.append_, run_underlying ht, sizeOf, typeInfo, hi, Builtin.lenOf, Builtin.firstCells, hnc, storeCells]
set_option maxRecDepth 100000 in
theorem wp_append_in {K : Act → World → Prop} (s x : Operand) (ho : o.op = .call { callee := .builtin .append, args := #[s, x], argTypes := #[25, 25] })
    {base n : Nat} {v u : Value} {X : List Value} {P : List OrdP} (hown : w.ownsRow base 35 6 v n X) (hr : InRow w u P) (hs : a.eval s = v) (hx : a.eval x = u)
    (hm : n + P.length ≤ 100000) (hb : base ≤ w.heap.size)
    (h : ∀ v' w', w'.ownsRow base 35 6 v' (n + P.length) (X ++ ordC P) → w.grownBy w' v.ownBlock → K (a.put o.dst v') w') : o.wp Tryd.prog a w K Q := by
  obtain ⟨i0, hi, hz0, hz1, hz2⟩ := info_parts info_ords
  obtain ⟨⟨ad, cap, rfl, hc⟩, hpp⟩ := id hr
  by_cases hP : P = [] ∧ ad = none
  · obtain ⟨rfl, rfl⟩ := hP
    have hrun := run_append_none_c (P := Tryd.prog) (w := w) base 25 o.type 35 i0 6 cap Tryd.underlying25 hi v n _ hown
    unfold Oper.wp
    simp [execOp, ho, resolve, invoke, builtin, hs, hx, hrun, Result.andThen]
    exact h v w (by simpa [ordC] using hown) ⟨rfl, rfl, rfl, Nat.le_refl _, fun _ _ _ => rfl⟩
  · obtain ⟨ad, rfl⟩ : ∃ p, ad = some p := by
      cases ad with
      | some p => exact ⟨p, rfl⟩
      | none =>
        exfalso
        by_cases h0 : P = []
        · exact hP ⟨h0, rfl⟩
        · obtain ⟨g, off, e, _⟩ := hc h0
          cases e
    refine wp_append_own _ s x 25 ho base 35 i0 (.agg #[.int .u8 0, .int .i64 0, .int .u8 0, .bool false, .slice none 0 0, .slice none 0 0]) 6 72 Tryd.underlying25 hi hz0 hz1 hz2 rfl (by decide) v n X hs hown ad P.length cap (ordC P) hx (ordC_len P) (fun j u hu => ?_) (ordC_one fun p hp => ?_) (by unfold maxLen; omega) (by omega) hb ?_
    · obtain ⟨i, p, hp, _⟩ := ordC_at P j u hu
      obtain ⟨g, off, e, _⟩ := hc (by intro e; rw [e] at hp; simp at hp)
      injection e with e
      subst e
      exact hr.cells j u hu
    · obtain ⟨h1, h2, _⟩ := hpp p hp
      obtain ⟨a1, c1, e1, _⟩ := h1
      obtain ⟨a2, c2, e2, _⟩ := h2
      exact ⟨⟨_, _, _, e1⟩, _, _, _, e2⟩
    · intro v' w' hown' hgrow _
      exact h v' w' hown' hgrow
theorem append_in (hw : Region.wanted o (yielded ops a.tmps) = true) (s x : Operand) (ho : o.op = .call { callee := .builtin .append, args := #[s, x], argTypes := #[25, 25] })
    {base n : Nat} {v u : Value} {X : List Value} {P : List OrdP} (hown : w.ownsRow base 35 6 v n X) (hr : InRow w u P) (hs : a.eval s = v) (hx : a.eval x = u)
    (hm : n + P.length ≤ 100000) (hb : base ≤ w.heap.size)
    (h : ∀ v' w', w'.ownsRow base 35 6 v' (n + P.length) (X ++ ordC P) → w.grownBy w' v.ownBlock → wpList Tryd.prog ops Q rest (a.put o.dst v') w') : wpList Tryd.prog ops Q (o :: rest) a w := by
  refine wpList_step fun K hK => ?_
  rw [if_pos hw]
  exact wp_append_in s x ho hown hr hs hx hm hb fun v' w' h1 h2 => hK _ _ (h v' w' h1 h2)
end
end Go.Proofs.YtjeknociobbhpaaDoor.Ord
