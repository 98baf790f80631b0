/-
  Append of a string to a row of bytes of the call's own that may have the run-time's mark.
-/
import Derived.Test.YtjeknociobbhpaaDoorMarkA
import Derived.Lib.AppendStr
namespace Go.Proofs.YtjeknociobbhpaaDoor.Base
open Go.RowKit
set_option linter.unusedVariables false
set_option linter.unusedSimpArgs false
section
variable {base : Nat} {w w' : World} {v : Value} {L : List Int}
theorem strL_len (s : ByteArray) : (strL s).length = s.size := by simp [strL]
theorem strL_cells (s : ByteArray) : Lib.strCells s = (strL s).map (Value.int .u8) := by
  simp [Lib.strCells, strL]
theorem run_append_ms (ty : TypeId) (hown : OwnM base w v L) (hb : base ≤ w.heap.size) (s : ByteArray) (hm : L.length + s.size ≤ 10000000) :
    ∃ v' w', (Builtin.append_ #[22, 9] ty #[v, .string s]).run Tryd.prog w = .ok v' w' ∧ OwnM base w' v' (L ++ strL s) ∧ w.grownBy w' v.ownBlock := by
  obtain ⟨i0, hi, hz0, hz1, hz2⟩ := info_parts info_byte
  have hX := strL_len s
  have hC := strL_cells s
  rcases hown with ⟨rfl, rfl⟩ | ⟨g, cap, cur, fz, rfl, hg, hgb, hf, h1, h2, h3, h4⟩
  · obtain ⟨v', w', r1, r2, r3, _⟩ := Lib.run_append_own_string (P := Tryd.prog) (w := w) base 22 9 ty 5 i0 Tryd.underlying22 Tryd.underlying9 hi hz0 hz1 hz2 (.slice none 0 0) 0 [] ⟨rfl, .inl ⟨rfl, rfl⟩⟩ s (by unfold maxLen; omega) (by omega) hb
    refine ⟨v', w', r1, OwnBytes.own ?_, r3⟩
    unfold OwnBytes
    rw [hC] at r2
    simpa [hX] using r2
  · have hf1 := Lib.run_firstCells_string (P := Tryd.prog) w 1 s
    rw [hC] at hf1
    obtain ⟨X, hXX⟩ : ∃ X, X = strL s := ⟨_, rfl⟩
    rw [← hXX] at hX hC hf1 ⊢
    by_cases hroom : L.length + s.size ≤ cap
    · have hst := run_storeCells_cells (P := Tryd.prog) g L.length (X.map (Value.int .u8)) 0 w (fun j hj => by
        have hj' : L.length + j < cur.size := by simp at hj; omega
        simp [World.cell?, hgb, hj']) (fun j hj => by
        have hj' : L.length + 0 + j < cap := by simp at hj; omega
        exact hf _ hj') (bytes_one X)
      simp only [Nat.add_zero] at hst
      obtain ⟨cur', a1, a2, a3, a4⟩ := setCells_row 5 fz g (X.map (Value.int .u8)) L.length w cur hgb
      obtain ⟨b1, b2, b3, b4⟩ := setCells_rest g (X.map (Value.int .u8)) L.length w
      refine ⟨.slice (some ⟨g, 0, none⟩) (L.length + X.length) cap, w.setCells g L.length (X.map (Value.int .u8)), ?_, .inr ⟨g, cap, cur', fz, by rw [List.length_append], hg, a1, fun j hj => ?_, by rw [List.length_append]; omega, h2, by omega, fun j x hx => ?_⟩, ⟨b1, b2, b3, by omega, fun k hk hne => setCells_other g _ _ _ k fun e => hne (by rw [e]; rfl)⟩⟩
      · simp [Builtin.append_, run_underlying Tryd.underlying22, run_underlying Tryd.underlying9, sizeOf, typeInfo, hi, hz1, Builtin.lenOf, hroom, hf1, Addr.add_lit, hst, hX]
      · have := hf j hj
        simp only [World.frozen?, hgb] at this
        simp only [World.frozen?, a1]
        exact this
      · rcases Nat.lt_or_ge j L.length with hl | hl
        · rw [List.getElem?_append_left hl] at hx
          rw [a3 j hl]
          exact h4 j x hx
        · rw [List.getElem?_append_right hl] at hx
          have := a4 (j - L.length) (.int .u8 x) (by rw [List.getElem?_map, hx]; rfl) (by have := (List.getElem?_eq_some_iff.1 hx).1; omega)
          rwa [show L.length + (j - L.length) = j by omega] at this
    · have holds : ∀ (j : Nat) (u : Value), (L.map (Value.int .u8))[j]? = some u → w.cell? ((⟨g, 0, none⟩ : Addr).add j) = some u := fun j u hu => by
        rw [add_off, Nat.zero_add]
        rw [List.getElem?_map] at hu
        cases hx : L[j]? with
        | none => rw [hx] at hu; cases hu
        | some x =>
          rw [hx] at hu
          obtain rfl : Value.int .u8 x = u := by simpa using hu
          simp [World.cell?, hgb, h4 j x hx]
      have hrun := Lib.run_append_grow_string (P := Tryd.prog) (w := w) 22 9 ty 5 i0 (.int .u8 0) Tryd.underlying22 Tryd.underlying9 hi hz0 ⟨g, 0, none⟩ L.length cap (L.map (Value.int .u8)) (by rw [hz1]; simp) holds s (by omega) (by omega) (growslice_fits (by omega) (by rw [hz2]; omega))
      rw [hC, ← hX] at hrun
      have hge := grownCap_ge w (L.length + X.length) cap 5
      have hcm := grownCap_le_maxLen w (L.length + X.length) cap 5 (by unfold maxLen; omega)
      refine ⟨_, _, hrun, .inr ⟨w.heap.size, _, _, (0, 0), by rw [List.length_append], hb, heap_alloc_new w.drew _, fun j _ => ?_, by rw [List.length_append]; exact hge, hcm, ?_, fun j x hx => ?_⟩, ⟨rfl, rfl, rfl, by simp, fun k hk _ => Below.heap_alloc w.drew _ k hk⟩⟩
      · have := heap_alloc_new w.drew (.cells ((L.map (Value.int .u8)).toArray ++ (X.map (Value.int .u8)).toArray ++ Builtin.zeroCells (Value.int .u8 0).cells (grownCap w (L.length + X.length) cap 5 - (L.length + X.length))) 5)
        simp only [World.frozen?]
        rw [show w.heap.size = w.drew.heap.size from rfl, this]
        simp
      · have hz1' : (Value.int IntKind.u8 0).cells.size = 1 := rfl
        simp only [Array.size_append, List.size_toArray, size_zeroCells, hz1', List.length_map]
        omega
      · have e : ((L.map (Value.int .u8)).toArray ++ (X.map (Value.int .u8)).toArray)[j]? = some (.int .u8 x) := by
          simp only [List.append_toArray, List.getElem?_toArray]
          rw [← List.map_append, List.getElem?_map, hx]
          rfl
        rw [Array.getElem?_append_left (by have := (Array.getElem?_eq_some_iff.1 e).1; exact this)]
        exact e
end
section
variable {ops : Array Oper} {rest : List Oper} {o : Oper} {a : Act} {w : World} {Q : Exit → Act → World → Prop}
theorem wp_append_ms {K : Act → World → Prop} (s x : Operand) (ho : o.op = .call { callee := .builtin .append, args := #[s, x], argTypes := #[22, 9] })
    {base : Nat} {v : Value} {L : List Int} (hown : OwnM base w v L) (t : ByteArray) (hs : a.eval s = v) (hx : a.eval x = .string t)
    (hm : L.length + t.size ≤ 10000000) (hb : base ≤ w.heap.size)
    (h : ∀ v' w', OwnM base w' v' (L ++ strL t) → w.grownBy w' v.ownBlock → K (a.put o.dst v') w') : o.wp Tryd.prog a w K Q := by
  obtain ⟨v', w', r1, r2, r3⟩ := run_append_ms o.type hown hb t hm
  unfold Oper.wp
  simp only [execOp, ho, resolve, invoke, builtin, Sem.run_bind, Sem.run_pure, Result.andThen_ok, List.map_toArray, List.map_cons, List.map_nil, hs, hx, r1]
  exact h v' w' r2 r3
theorem wpList_append_ms (hgd : o.guard = none) (s x : Operand) (ho : o.op = .call { callee := .builtin .append, args := #[s, x], argTypes := #[22, 9] })
    {base : Nat} {v : Value} {L : List Int} (hown : OwnM base w v L) (t : ByteArray) (hs : a.eval s = v) (hx : a.eval x = .string t)
    (hm : L.length + t.size ≤ 10000000) (hb : base ≤ w.heap.size)
    (h : ∀ v' w', OwnM base w' v' (L ++ strL t) → w.grownBy w' v.ownBlock → wpList Tryd.prog ops Q rest (a.put o.dst v') w') : wpList Tryd.prog ops Q (o :: rest) a w :=
  wpList_plain hgd fun K hK => wp_append_ms s x ho hown t hs hx hm hb fun v' w' h1 h2 => hK _ _ (h v' w' h1 h2)
end
end Go.Proofs.YtjeknociobbhpaaDoor.Base
