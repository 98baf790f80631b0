/-
  Rows of numbers of the call's own; append on them as one step.
-/
import Derived.Test.YtfijcdidcnfadaaAppRow
namespace Go.Proofs.Ytfijcdidcnfadaa.Base
open Go.RowKit
set_option linter.unusedVariables false

theorem info_int : (Try.prog.info? 3).map (fun i => (i.zero, i.size, i.bytes)) = some (some (.int .i64 0), 1, 8) := by kernel_rfl
/-- A row of bytes of the call's own. -/
def OwnInts (base : Nat) (w : World) (v : Value) (L : List Int) : Prop := w.ownsRow base 3 1 v L.length (L.map (Value.int .i64))
section
variable {base base' : Nat} {w w' : World} {v : Value} {L : List Int}
theorem OwnInts.nil (base : Nat) (w : World) : OwnInts base w (.slice none 0 0) [] := ⟨rfl, .inl ⟨rfl, rfl⟩⟩
theorem OwnInts.slice (h : OwnInts base w v L) : ∃ a cap, v = .slice a L.length cap := by
  rcases h.2 with ⟨rfl, h0⟩ | ⟨g, cap, cur, rfl, _⟩
  · exact ⟨none, 0, by rw [h0]⟩
  · exact ⟨_, _, rfl⟩
theorem OwnInts.keep (h : OwnInts base w v L) (u : ∀ g, base ≤ g → g < w.heap.size → w'.heap[g]? = w.heap[g]?) : OwnInts base w' v L := by
  refine ⟨h.1, ?_⟩
  rcases h.2 with h0 | ⟨g, cap, cur, rfl, hg, hgb, rest⟩
  · exact .inl h0
  · exact .inr ⟨g, cap, cur, rfl, hg, (u g hg (lt_of_block hgb)).trans hgb, rest⟩
theorem OwnInts.below (h : OwnInts base w v L) (u : Below w.heap.size w w') : OwnInts base w' v L := h.keep fun g _ hl => u.block g hl
theorem OwnInts.lower (h : OwnInts base w v L) (hb : base' ≤ base) : OwnInts base' w v L := ownsRow_base h hb
theorem OwnInts.first (h : OwnInts base w v L) : ∀ r, v.ownBlock = some r → base ≤ r := fun r e => by
  rcases h.2 with ⟨rfl, _⟩ | ⟨g, cap, cur, rfl, hg', _, _⟩
  · cases e
  · obtain rfl : r = g := by simpa [Value.ownBlock, eq_comm] using e
    exact hg'
theorem OwnInts.rowIn (h : OwnInts base w v L) : RowIn (fun k => base ≤ k) .i64 w v L := RowIn.of_owns h
theorem OwnInts.row (h : OwnInts base w v L) : RowOf .i64 w v L := RowOf.of_owns h
/-- What append leaves: the longer row; all below the base is as it was. -/
theorem OwnInts.grown {w1 : World} {v' : Value} {X : List Int} {o : Obj} {w0 : World} (h : OwnInts base w v L) (hown : w1.ownsRow base 3 1 v' (L.length + X.length) (L.map (Value.int .i64) ++ X.map (Value.int .i64))) (hg : (w.alloc o).grownBy w1 v.ownBlock) (hb : Below base w0 w) (hw : base ≤ w.heap.size) :
    OwnInts base w1 v' (L ++ X) ∧ Below base w0 w1 := by
  refine ⟨?_, (hb.alloc hw _).grown hg (by rw [World.size_alloc]; omega) (fun r e => h.first r e)⟩
  unfold OwnInts
  rw [List.length_append, List.map_append]
  exact hown
theorem OwnInts.grown0 {w1 : World} {v' : Value} {X : List Int} {w0 : World} (h : OwnInts base w v L) (hown : w1.ownsRow base 3 1 v' (L.length + X.length) (L.map (Value.int .i64) ++ X.map (Value.int .i64))) (hg : w.grownBy w1 v.ownBlock) (hb : Below base w0 w) (hw : base ≤ w.heap.size) :
    OwnInts base w1 v' (L ++ X) ∧ Below base w0 w1 := by
  refine ⟨?_, hb.grown hg hw (fun r e => h.first r e)⟩
  unfold OwnInts
  rw [List.length_append, List.map_append]
  exact hown
/-- What is read of it. -/
theorem OwnInts.lit (h : OwnInts base w v L) : (v = .slice none 0 0 ∧ L = []) ∨ ∃ g cap, v = .slice (some ⟨g, 0, none⟩) L.length cap ∧ ∀ (j : Nat) (u : Value), (L.map (Value.int .i64))[j]? = some u → w.cell? ((⟨g, 0, none⟩ : Addr).add j) = some u := by
  rcases h.2 with ⟨rfl, h0⟩ | ⟨g, cap, cur, rfl, _⟩
  · exact .inl ⟨rfl, List.eq_nil_of_length_eq_zero h0⟩
  · exact .inr ⟨g, cap, rfl, fun j u hu => World.ownsRow.cells h (g := g) rfl j u hu⟩
theorem newI2_own (w : World) (a b : Int) : OwnInts w.heap.size (w.alloc (.cells #[.int .i64 a, .int .i64 b] 3)) (.slice (some ⟨w.heap.size, 0, none⟩) 2 2) [a, b] :=
  ⟨rfl, .inr ⟨w.heap.size, 2, #[.int .i64 a, .int .i64 b], rfl, Nat.le_refl _, heap_alloc_new w _, by simp, by simp [maxLen], by simp, by simp⟩⟩
theorem ints_one (L : List Int) : ∀ u ∈ L.map (Value.int .i64), u.oneCell' = true := by
  intro u hu
  obtain ⟨x, _, rfl⟩ := List.mem_map.1 hu
  rfl
end


/-- A row that may be cut. -/
def CutInt (w : World) (v : Value) (L : List Int) : Prop := RowOf .i64 w v L ∧ ∃ a c, v = .slice a L.length c ∧ L.length ≤ c ∧ (a = none → c = 0)
theorem OwnInts.cut {base : Nat} {w : World} {v : Value} {L : List Int} (h : OwnInts base w v L) : CutInt w v L := by
  refine ⟨h.row, ?_⟩
  rcases h.2 with ⟨rfl, h0⟩ | ⟨g, cap, cur, rfl, _, _, h1, _, _, _⟩
  · exact ⟨none, 0, by rw [h0], by omega, fun _ => rfl⟩
  · exact ⟨_, cap, rfl, h1, fun e => by cases e⟩
theorem CutInt.below {w w' : World} {v : Value} {L : List Int} (h : CutInt w v L) (t : Below w.heap.size w w') : CutInt w' v L := ⟨h.1.below t, h.2⟩
section
variable {ops : Array Oper} {rest : List Oper} {o : Oper} {a : Act} {w : World} {Q : Exit → Act → World → Prop}
theorem wp_append_int {K : Act → World → Prop} (s x : Operand) (ho : o.op = .call { callee := .builtin .append, args := #[s, x], argTypes := #[47, 47] })
    {base : Nat} {v u : Value} {L X : List Int} (hown : OwnInts base w v L) (hr : RowOf .i64 w u X) (hu : ∀ n c, u = .slice Option.none n c → c = 0) (hs : a.eval s = v) (hx : a.eval x = u)
    (hm : L.length + X.length ≤ 10000000) (hb : base ≤ w.heap.size) {w0 : World} (hold : Below base w0 w)
    (h : ∀ v' w', OwnInts base w' v' (L ++ X) → Below base w0 w' → Hid (v' = .slice Option.none 0 0 ↔ v = .slice Option.none 0 0 ∧ X.length = 0) → w.heap.size ≤ w'.heap.size → K (a.put o.dst v') w') : o.wp Try.prog a w K Q := by
  obtain ⟨i0, hi, hz0, hz1, hz2⟩ := info_parts info_int
  have hgen := hr
  obtain ⟨ad, c, rfl, hrow⟩ := hr
  cases ad with
  | none =>
    obtain ⟨h0, rfl⟩ := hgen.none
    obtain rfl := hu _ _ rfl
    have hrun := run_append_owned_none (P := Try.prog) (w := w) base 47 o.type 3 i0 1 Try.underlying47 hi v L.length _ hown
    have hx : a.eval x = .slice Option.none 0 0 := hx
    unfold Oper.wp
    simp [execOp, ho, resolve, invoke, builtin, hs, hx, hrun, Result.andThen]
    exact h v w (by simpa using hown) hold (show _ ↔ _ by simp) (Nat.le_refl _)
  | some ad =>
    obtain ⟨_, hc⟩ := hgen.reads
    refine wp_append_own _ s x 47 ho base 3 i0 (.int .i64 0) 1 8 Try.underlying47 hi hz0 hz1 hz2 rfl (by decide) v L.length _ hs hown ad X.length c (X.map (Value.int .i64)) hx (by simp) hc (ints_one X) (by unfold maxLen; omega) (by omega) hb ?_
    intro v' w' hown' hgrow hnil
    obtain ⟨h1, h2⟩ := hown.grown0 (X := X) hown' hgrow hold hb
    exact h v' w' h1 h2 hnil hgrow.size
theorem append_int (hgd : o.guard = Option.none) (s x : Operand) (ho : o.op = .call { callee := .builtin .append, args := #[s, x], argTypes := #[47, 47] })
    {base : Nat} {v u : Value} {L X : List Int} (hown : OwnInts base w v L) (hr : RowOf .i64 w u X) (hu : ∀ n c, u = .slice Option.none n c → c = 0) (hs : a.eval s = v) (hx : a.eval x = u)
    (hm : L.length + X.length ≤ 10000000) (hb : base ≤ w.heap.size) {w0 : World} (hold : Below base w0 w)
    (h : ∀ v' w', OwnInts base w' v' (L ++ X) → Below base w0 w' → Hid (v' = .slice Option.none 0 0 ↔ v = .slice Option.none 0 0 ∧ X.length = 0) → w.heap.size ≤ w'.heap.size → wpList Try.prog ops Q rest (a.put o.dst v') w') : wpList Try.prog ops Q (o :: rest) a w :=
  wpList_plain hgd fun _ hK => wp_append_int s x ho hown hr hu hs hx hm hb hold fun v' w' h1 h2 h3 h4 => hK _ _ (h v' w' h1 h2 h3 h4)
theorem step_append_int {K : Act → World → Prop} {E : Prop} (hgd : o.guard = Option.none) (s x : Operand) (ho : o.op = .call { callee := .builtin .append, args := #[s, x], argTypes := #[47, 47] })
    {base : Nat} {v u : Value} {L X : List Int} (hown : OwnInts base w v L) (hr : RowOf .i64 w u X) (hu : ∀ n c, u = .slice Option.none n c → c = 0) (hs : a.eval s = v) (hx : a.eval x = u)
    (hm : L.length + X.length ≤ 10000000) (hb : base ≤ w.heap.size) {w0 : World} (hold : Below base w0 w)
    (h : ∀ v' w', OwnInts base w' v' (L ++ X) → Below base w0 w' → Hid (v' = .slice Option.none 0 0 ↔ v = .slice Option.none 0 0 ∧ X.length = 0) → w.heap.size ≤ w'.heap.size → K (a.put o.dst v') w') :
    if Region.wanted o (yielded ops a.tmps) = true then Oper.wp Try.prog o a w K Q else E := by
  have hw : Region.wanted o (yielded ops a.tmps) = true := by simp [Region.wanted, hgd]
  rw [if_pos hw]
  exact wp_append_int s x ho hown hr hu hs hx hm hb hold h
end
theorem row_oneI (W : World) (x : Int) (t : TypeId) : RowOf .i64 (W.alloc (.cells #[.int .i64 x] t)) (.slice (some ⟨W.heap.size, 0, none⟩) 1 1) [x] := by
  refine ⟨_, 1, rfl, fun _ => ⟨_, 0, rfl, fun i hi => ?_⟩⟩
  obtain rfl : i = 0 := by simpa using hi
  simp [go_sem]
theorem row_oneId (W : World) (x : Int) (t : TypeId) : RowOf .i64 (W.alloc (.cells #[.int .i64 x] t)).drew (.slice (some ⟨W.heap.size, 0, none⟩) 1 1) [x] := (row_oneI W x t).kept fun _ _ _ h => h
theorem RowOf.dropK {k : IntKind} {w : World} {b off n c : Nat} {L : List Int} (h : RowOf k w (.slice (some ⟨b, off, Option.none⟩) n c) L) (m : Nat) (hm : m ≤ n) (c' : Nat) : RowOf k w (.slice (some ⟨b, off + m, Option.none⟩) (n - m) c') (L.drop m) := by
  obtain ⟨a', c0, e', hr⟩ := h
  injection e' with e1 e2 e3
  subst e1
  have hl : (L.drop m).length = n - m := by rw [List.length_drop, ← e2]
  refine ⟨_, c', by rw [hl], fun hne => ?_⟩
  have hne' : L ≠ [] := by intro e; rw [e] at hne; simp at hne
  obtain ⟨b, off, ha, hc⟩ := hr hne'
  cases ha
  refine ⟨_, _, rfl, fun i hi => ?_⟩
  rw [hl] at hi
  rw [List.getElem?_drop, show off + m + i = off + (m + i) by omega]
  exact hc (m + i) (by omega)
theorem OwnInts.some {base : Nat} {w : World} {v : Value} {L : List Int} (h : OwnInts base w v L) (hne : 0 < L.length) : ∃ g cap, v = .slice (Option.some ⟨g, 0, Option.none⟩) L.length cap ∧ base ≤ g ∧ L.length ≤ cap := by
  rcases h.2 with ⟨_, h0⟩ | ⟨g, cap, cur, rfl, hg, _, h1, _⟩
  · omega
  · exact ⟨g, cap, rfl, hg, h1⟩
theorem row_far {k : IntKind} {W W' : World} {g off n c : Nat} {L : List Int} (h : RowOf k W (.slice (Option.some ⟨g, off, Option.none⟩) n c) L) (hb : W'.heap[g]? = W.heap[g]?) : RowOf k W' (.slice (Option.some ⟨g, off, Option.none⟩) n c) L := by
  obtain ⟨a', c', e', hr⟩ := h
  refine ⟨a', c', e', fun hne => ?_⟩
  obtain ⟨b, off', ha, hc⟩ := hr hne
  have hb' : b = g := by
    injection e' with e1 _ _
    rw [ha] at e1
    injection e1 with e1
    injection e1 with e1 _ _
    exact e1.symm
  exact ⟨b, off', ha, fun i hi => (cell_block (by rw [hb']; exact hb) _).trans (hc i hi)⟩
theorem row_in {S : Nat → Prop} {k : IntKind} {W : World} {g off n c : Nat} {L : List Int} (h : RowOf k W (.slice (Option.some ⟨g, off, Option.none⟩) n c) L) (hS : S g) : RowIn S k W (.slice (Option.some ⟨g, off, Option.none⟩) n c) L := by
  obtain ⟨a', c', e', hr⟩ := h
  refine ⟨a', c', e', fun hne => ?_⟩
  obtain ⟨b, off', ha, hc⟩ := hr hne
  have hb' : b = g := by
    injection e' with e1 _ _
    rw [ha] at e1
    injection e1 with e1
    injection e1 with e1 _ _
    exact e1.symm
  have h0 := hc 0 (List.length_pos_iff.2 hne)
  exact ⟨b, off', ha, by rw [hb']; exact hS, World.block_lt_of_cell? W ⟨b, off' + 0, Option.none⟩ h0, hc⟩
/-- A row that may be cut, in blocks of S. -/
def CutIn (S : Nat → Prop) (w : World) (v : Value) (L : List Int) : Prop := RowIn S .i64 w v L ∧ ∃ a c, v = .slice a L.length c ∧ L.length ≤ c ∧ (a = Option.none → c = 0)
theorem CutIn.cut {S : Nat → Prop} {w : World} {v : Value} {L : List Int} (h : CutIn S w v L) : CutInt w v L := ⟨h.1.row, h.2⟩
theorem OwnInts.cutIn {base : Nat} {w : World} {v : Value} {L : List Int} (h : OwnInts base w v L) : CutIn (fun b => base ≤ b) w v L := ⟨h.rowIn, h.cut.2⟩
end Go.Proofs.Ytfijcdidcnfadaa.Base
