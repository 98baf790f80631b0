/-
  Rows of bytes of the call's own that a string was made into: with the run-time's mark behind their cells. Append on them.
-/
import Derived.Test.YtjeknociobbhpaaDoorAppRow
import Derived.Lib.ConvBytes
import Derived.Laws.IdiomCopy
namespace Go.Proofs.YtjeknociobbhpaaDoor.Base
open Go.RowKit
set_option linter.unusedVariables false

/-- A row of bytes of the call's own; a mark may stand behind its cells. -/
def OwnM (base : Nat) (w : World) (v : Value) (L : List Int) : Prop :=
  (v = .slice none 0 0 ∧ L = []) ∨ ∃ g cap cur fz, v = .slice (some ⟨g, 0, none⟩) L.length cap ∧ base ≤ g ∧ w.heap[g]? = some (.cells cur 5 fz) ∧ (∀ j, j < cap → w.frozen? ⟨g, j, none⟩ = false) ∧ L.length ≤ cap ∧ cap ≤ maxLen ∧ cur.size = cap ∧ ∀ (j : Nat) (x : Int), L[j]? = some x → cur[j]? = some (.int .u8 x)
section
variable {base base' : Nat} {w w' : World} {v : Value} {L X : List Int}
theorem OwnM.nil (base : Nat) (w : World) : OwnM base w (.slice none 0 0) [] := .inl ⟨rfl, rfl⟩
theorem frozen_block {b : Nat} (h : w'.heap[b]? = w.heap[b]?) (o : Nat) : w'.frozen? ⟨b, o, none⟩ = w.frozen? ⟨b, o, none⟩ := by simp [World.frozen?, h]
theorem OwnM.keep (h : OwnM base w v L) (u : ∀ g, v.ownBlock = some g → base ≤ g → g < w.heap.size → w'.heap[g]? = w.heap[g]?) : OwnM base w' v L := by
  rcases h with h | ⟨g, cap, cur, fz, rfl, hg, hgb, hf, rest⟩
  · exact .inl h
  · have e := u g rfl hg (lt_of_block hgb)
    exact .inr ⟨g, cap, cur, fz, rfl, hg, e.trans hgb, fun j hj => (frozen_block e j).trans (hf j hj), rest⟩
theorem OwnM.below (h : OwnM base w v L) (t : Below w.heap.size w w') : OwnM base w' v L := h.keep fun g _ _ hl => t.block g hl
theorem OwnM.lower (h : OwnM base w v L) (hb : base' ≤ base) : OwnM base' w v L := by
  rcases h with h | ⟨g, cap, cur, fz, rfl, hg, rest⟩
  · exact .inl h
  · exact .inr ⟨g, cap, cur, fz, rfl, by omega, rest⟩
theorem OwnM.first (h : OwnM base w v L) : ∀ r, v.ownBlock = some r → base ≤ r := fun r e => by
  rcases h with ⟨rfl, _⟩ | ⟨g, cap, cur, fz, rfl, hg, _⟩
  · cases e
  · obtain rfl : r = g := by simpa [Value.ownBlock, eq_comm] using e
    exact hg
theorem OwnM.kind (h : OwnM base w v L) : ∀ r, v.ownBlock = some r → ∃ c fz, w.heap[r]? = some (.cells c 5 fz) := fun r e => by
  rcases h with ⟨rfl, _⟩ | ⟨g, cap, cur, fz, rfl, hg, hgb, _⟩
  · cases e
  · obtain rfl : r = g := by simpa [Value.ownBlock, eq_comm] using e
    exact ⟨cur, fz, hgb⟩
theorem OwnM.slice (h : OwnM base w v L) : ∃ a cap, v = .slice a L.length cap := by
  rcases h with ⟨rfl, rfl⟩ | ⟨g, cap, cur, fz, rfl, _⟩
  · exact ⟨none, 0, rfl⟩
  · exact ⟨_, _, rfl⟩
theorem OwnM.row (h : OwnM base w v L) : RowOf .u8 w v L := by
  rcases h with ⟨rfl, rfl⟩ | ⟨g, cap, cur, fz, rfl, hg, hgb, hf, h1, h2, h3, h4⟩
  · exact RowOf.nil _ _
  · refine ⟨_, cap, rfl, fun _ => ⟨g, 0, rfl, fun i hi => ?_⟩⟩
    have := h4 i L[i] (List.getElem?_eq_getElem hi)
    simp [World.cell?, hgb, this, hi]
theorem OwnBytes.own (h : OwnBytes base w v L) : OwnM base w v L := by
  rcases h.2 with ⟨rfl, h0⟩ | ⟨g, cap, cur, rfl, hg, hgb, h1, h2, h3, h4⟩
  · exact .inl ⟨rfl, List.eq_nil_of_length_eq_zero h0⟩
  · refine .inr ⟨g, cap, cur, _, rfl, hg, hgb, fun j _ => by simp [World.frozen?, hgb], h1, h2, by omega, fun j x hx => ?_⟩
    have e : (L.map (Value.int .u8))[j]? = some (.int .u8 x) := by rw [List.getElem?_map, hx]; rfl
    rw [← h4, List.getElem?_take] at e
    split at e
    · simpa using e
    · cases e
theorem setCells_row (t : TypeId) (fz : Nat × Nat) (g : Nat) : ∀ (vs : List Value) (o : Nat) (W : World) (cur : Array Value), W.heap[g]? = some (.cells cur t fz) → ∃ cur' : Array Value, (W.setCells g o vs).heap[g]? = some (.cells cur' t fz) ∧ cur'.size = cur.size ∧ (∀ j, j < o → cur'[j]? = cur[j]?) ∧ ∀ j u, vs[j]? = some u → o + j < cur.size → cur'[o + j]? = some u
  | [], o, W, cur, h => ⟨cur, h, rfl, fun _ _ => rfl, fun j u hu => by simp at hu⟩
  | x :: r, o, W, cur, h => by
    have h1 : (W.setCell ⟨g, o, none⟩ x).heap[g]? = some (.cells (cur.setIfInBounds o x) t fz) := by
      have hlt := lt_of_block h
      have h' : W.heap[g] = .cells cur t fz := by simpa [Array.getElem?_eq_getElem hlt] using h
      show (W.heap.modify g _)[g]? = _
      rw [Array.getElem?_eq_getElem (by simpa using hlt), Array.getElem_modify_self, h']
      simp
    obtain ⟨cur', a1, a2, a3, a4⟩ := setCells_row t fz g r (o + 1) _ _ h1
    refine ⟨cur', a1, by simpa using a2, fun j hj => ?_, fun j u hu hb => ?_⟩
    · rw [a3 j (by omega), Array.getElem?_setIfInBounds_ne (by omega)]
    · cases j with
      | zero =>
        obtain rfl : x = u := by simpa using hu
        rw [Nat.add_zero, a3 o (by omega), Array.getElem?_setIfInBounds_self_of_lt (by simpa using hb)]
      | succ j =>
        rw [show o + (j + 1) = o + 1 + j by omega]
        exact a4 j u (by simpa using hu) (by simp; omega)
theorem setCells_other (g : Nat) : ∀ (vs : List Value) (o : Nat) (W : World) (k : Nat), k ≠ g → (W.setCells g o vs).heap[k]? = W.heap[k]?
  | [], _, _, _, _ => rfl
  | x :: r, o, W, k, h => (setCells_other g r (o + 1) _ k h).trans (Below.heap_setCell _ _ _ _ h)
theorem setCells_rest (g : Nat) : ∀ (vs : List Value) (o : Nat) (W : World), (W.setCells g o vs).os = W.os ∧ (W.setCells g o vs).tape = W.tape ∧ (W.setCells g o vs).output = W.output ∧ (W.setCells g o vs).heap.size = W.heap.size
  | [], _, _ => ⟨rfl, rfl, rfl, rfl⟩
  | x :: r, o, W => by
    obtain ⟨a, b, c, d⟩ := setCells_rest g r (o + 1) (W.setCell ⟨g, o, none⟩ x)
    exact ⟨a, b, c, d.trans (by simp)⟩
/-- Append of a row that can be read. -/
theorem run_append_m (ty : TypeId) (hown : OwnM base w v L) (hb : base ≤ w.heap.size) (ad : Addr) (c : Nat) (hr : ∀ (j : Nat) (u : Value), (X.map (Value.int .u8))[j]? = some u → w.cell? (ad.add j) = some u) (hm : L.length + X.length ≤ 10000000) :
    ∃ v' w', (Builtin.append_ #[22, 22] ty #[v, .slice (some ad) X.length c]).run Tryd.prog w = .ok v' w' ∧ OwnM base w' v' (L ++ X) ∧ w.grownBy w' v.ownBlock := by
  obtain ⟨i0, hi, hz0, hz1, hz2⟩ := info_parts info_byte
  rcases hown with ⟨rfl, rfl⟩ | ⟨g, cap, cur, fz, rfl, hg, hgb, hf, h1, h2, h3, h4⟩
  · obtain ⟨v', w', r1, r2, r3, _⟩ := run_append_own (P := Tryd.prog) w base 22 ty 5 i0 (.int .u8 0) 1 1 Tryd.underlying22 hi hz0 hz1 hz2 rfl (by decide) (.slice none 0 0) 0 [] ⟨rfl, .inl ⟨rfl, rfl⟩⟩ ad X.length c (X.map (Value.int .u8)) (by simp) hr (bytes_one X) (by unfold maxLen; omega) (by omega) hb
    refine ⟨v', w', r1, OwnBytes.own ?_, r3⟩
    unfold OwnBytes
    simpa using r2
  · have hf1 := run_firstCells_some (P := Tryd.prog) w 1 X.length ad X.length c (X.map (Value.int .u8)) (by simp) hr
    by_cases hroom : L.length + X.length ≤ cap
    · have hst := run_storeCells_cells (P := Tryd.prog) g L.length (X.map (Value.int .u8)) 0 w (fun j hj => by
        have hj' : L.length + j < cur.size := by simp at hj; omega
        simp [World.cell?, hgb, hj']) (fun j hj => by
        have hj' : L.length + 0 + j < cap := by simp at hj; omega
        exact hf _ hj') (bytes_one X)
      simp only [Nat.add_zero] at hst
      obtain ⟨cur', a1, a2, a3, a4⟩ := setCells_row 5 fz g (X.map (Value.int .u8)) L.length w cur hgb
      obtain ⟨b1, b2, b3, b4⟩ := setCells_rest g (X.map (Value.int .u8)) L.length w
      refine ⟨.slice (some ⟨g, 0, none⟩) (L.length + X.length) cap, w.setCells g L.length (X.map (Value.int .u8)), ?_, .inr ⟨g, cap, cur', fz, by rw [List.length_append], hg, a1, fun j hj => ?_, by rw [List.length_append]; exact hroom, h2, by omega, fun j x hx => ?_⟩, ⟨b1, b2, b3, by omega, fun k hk hne => setCells_other g _ _ _ k fun e => hne (by rw [e]; rfl)⟩⟩
      · simp [Builtin.append_, run_underlying Tryd.underlying22, sizeOf, typeInfo, hi, hz1, Builtin.lenOf, hroom, hf1, Addr.add_lit, hst]
      · have := hf j hj
        simp only [World.frozen?, hgb] at this
        simp only [World.frozen?, a1]
        exact this
      · rcases Nat.lt_or_ge j L.length with hl | hl
        · rw [List.getElem?_append_left hl] at hx
          rw [a3 j hl]
          exact h4 j x hx
        · rw [List.getElem?_append_right hl] at hx
          have := a4 (j - L.length) (.int .u8 x) (by rw [List.getElem?_map, hx]; rfl) (by have := (List.getElem?_eq_some_iff.1 hx).1; omega)
          rwa [show L.length + (j - L.length) = j by omega] at this
    · have holds : ∀ (j : Nat) (u : Value), (L.map (Value.int .u8))[j]? = some u → w.cell? ((⟨g, 0, none⟩ : Addr).add j) = some u := fun j u hu => by
        rw [add_off, Nat.zero_add]
        rw [List.getElem?_map] at hu
        cases hx : L[j]? with
        | none => rw [hx] at hu; cases hu
        | some x =>
          rw [hx] at hu
          obtain rfl : Value.int .u8 x = u := by simpa using hu
          simp [World.cell?, hgb, h4 j x hx]
      have hrun := run_append_grow (P := Tryd.prog) w 22 ty 5 i0 (.int .u8 0) Tryd.underlying22 hi hz0 ⟨g, 0, none⟩ L.length cap (L.map (Value.int .u8)) (by rw [hz1]; simp) holds ad X.length c (X.map (Value.int .u8)) (by rw [hz1]; simp) hr (by omega) (by omega) (growslice_fits (by omega) (by rw [hz2]; omega))
      have hge := grownCap_ge w (L.length + X.length) cap 5
      have hcm := grownCap_le_maxLen w (L.length + X.length) cap 5 (by unfold maxLen; omega)
      refine ⟨_, _, hrun, .inr ⟨w.heap.size, _, _, (0, 0), by rw [List.length_append], hb, heap_alloc_new w.drew _, fun j _ => ?_, by rw [List.length_append]; exact hge, hcm, ?_, fun j x hx => ?_⟩, ⟨rfl, rfl, rfl, by simp, fun k hk _ => Below.heap_alloc w.drew _ k hk⟩⟩
      · have := heap_alloc_new w.drew (.cells ((L.map (Value.int .u8)).toArray ++ (X.map (Value.int .u8)).toArray ++ Builtin.zeroCells (Value.int .u8 0).cells (grownCap w (L.length + X.length) cap 5 - (L.length + X.length))) 5)
        simp only [World.frozen?]
        rw [show w.heap.size = w.drew.heap.size from rfl, this]
        simp
      · have hz1' : (Value.int IntKind.u8 0).cells.size = 1 := rfl
        simp only [Array.size_append, List.size_toArray, size_zeroCells, hz1', List.length_map]
        omega
      · have e : ((L.map (Value.int .u8)).toArray ++ (X.map (Value.int .u8)).toArray)[j]? = some (.int .u8 x) := by
          simp only [List.append_toArray, List.getElem?_toArray]
          rw [← List.map_append, List.getElem?_map, hx]
          rfl
        rw [Array.getElem?_append_left (by have := (Array.getElem?_eq_some_iff.1 e).1; exact this)]
        exact e
end
section
variable {ops : Array Oper} {rest : List Oper} {o : Oper} {a : Act} {w : World} {Q : Exit → Act → World → Prop}
theorem wp_append_m {K : Act → World → Prop} (s x : Operand) (ho : o.op = .call { callee := .builtin .append, args := #[s, x], argTypes := #[22, 22] })
    {base : Nat} {v u : Value} {L X : List Int} (hown : OwnM base w v L) (hr : RowOf .u8 w u X) (hu : ∃ ad n c, u = .slice (some ad) n c) (hs : a.eval s = v) (hx : a.eval x = u)
    (hm : L.length + X.length ≤ 10000000) (hb : base ≤ w.heap.size)
    (h : ∀ v' w', OwnM base w' v' (L ++ X) → w.grownBy w' v.ownBlock → K (a.put o.dst v') w') : o.wp Tryd.prog a w K Q := by
  obtain ⟨ad, n, c, rfl⟩ := hu
  obtain ⟨rfl, hc⟩ := hr.reads
  obtain ⟨v', w', r1, r2, r3⟩ := run_append_m o.type hown hb ad c hc hm
  unfold Oper.wp
  simp only [execOp, ho, resolve, invoke, builtin, Sem.run_bind, Sem.run_pure, Result.andThen_ok, List.map_toArray, List.map_cons, List.map_nil, hs, hx, r1]
  exact h v' w' r2 r3
theorem step_append_m {K : Act → World → Prop} {E : Prop} (hgd : o.guard = Option.none) (s x : Operand) (ho : o.op = .call { callee := .builtin .append, args := #[s, x], argTypes := #[22, 22] })
    {base : Nat} {v u : Value} {L X : List Int} (hown : OwnM base w v L) (hr : RowOf .u8 w u X) (hu : ∃ ad n c, u = .slice (some ad) n c) (hs : a.eval s = v) (hx : a.eval x = u)
    (hm : L.length + X.length ≤ 10000000) (hb : base ≤ w.heap.size)
    (h : ∀ v' w', OwnM base w' v' (L ++ X) → w.grownBy w' v.ownBlock → K (a.put o.dst v') w') :
    if Region.wanted o (yielded ops a.tmps) = true then Oper.wp Tryd.prog o a w K Q else E := by
  have hw : Region.wanted o (yielded ops a.tmps) = true := by simp [Region.wanted, hgd]
  rw [if_pos hw]
  exact wp_append_m s x ho hown hr hu hs hx hm hb h
end
/-- A string's bytes. -/
def strL (s : ByteArray) : List Int := s.data.toList.map fun b => (b.toNat : Int)
theorem conv_below (w : World) (s : ByteArray) : Below w.heap.size w (Lib.bytesWorld w 5 s) :=
  ⟨rfl, rfl, rfl, by rw [Lib.bytesWorld_size]; omega, fun k hk => Lib.bytesWorld_at_old w 5 s k hk⟩
theorem conv_run (w : World) (s : ByteArray) : (convert 9 22 (.string s)).run Tryd.prog w = .ok (.slice (some ⟨w.heap.size, 0, none⟩) s.size (grownCap w s.size 0 5)) (Lib.bytesWorld w 5 s) :=
  Lib.run_convert_string_bytes w 9 22 5 s Tryd.underlying9 Tryd.underlying22 Tryd.underlying5
theorem conv_own (w : World) (s : ByteArray) (hm : s.size ≤ 1000000) : OwnM w.heap.size (Lib.bytesWorld w 5 s) (.slice (some ⟨w.heap.size, 0, none⟩) s.size (grownCap w s.size 0 5)) (strL s) := by
  have hn := Lib.bytesWorld_at_new w 5 s
  have hge := grownCap_ge w s.size 0 5
  have hsz : (Lib.bytesCells w 5 s).size = grownCap w s.size 0 5 := by
    have e : s.data.size = s.size := rfl
    simp [Lib.bytesCells]
    omega
  have hl : (strL s).length = s.size := by simp [strL]
  refine .inr ⟨w.heap.size, _, _, _, by rw [hl], Nat.le_refl _, hn, fun j hj => ?_, by rw [hl]; exact hge, grownCap_le_maxLen _ _ _ _ (by unfold maxLen; omega), hsz, fun j x hx => ?_⟩
  · simp only [World.frozen?, hn, Bool.and_eq_false_iff, decide_eq_false_iff_not]
    left
    omega
  · unfold Lib.bytesCells
    have hj : j < s.data.size := by
      have := (List.getElem?_eq_some_iff.1 hx).1
      rw [hl] at this
      exact this
    rw [Array.getElem?_append_left (by simpa using hj)]
    unfold strL at hx
    rw [List.getElem?_map] at hx
    simp at hx
    obtain ⟨a, ha, rfl⟩ := hx
    rw [Array.getElem?_map, ha]
    rfl
end Go.Proofs.YtjeknociobbhpaaDoor.Base
