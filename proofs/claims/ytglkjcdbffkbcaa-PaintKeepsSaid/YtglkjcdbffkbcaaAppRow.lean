/-
  Append on a row of bytes of the call's own, from whatever row of bytes, as one step; a row's parts.
-/
import Derived.Test.YtglkjcdbffkbcaaBytes
import Derived.Laws.AppendOwnNone
namespace Go.Proofs.Ytglkjcdbffkbcaa.Base
open Go.RowKit
set_option linter.unusedVariables false

theorem add_off (b off i : Nat) : (Addr.mk b off none).add i = ⟨b, off + i, none⟩ := by
  unfold Addr.add; split <;> simp_all
theorem RowOf.reads {k : IntKind} {w : World} {ad : Addr} {n c : Nat} {X : List Int} (h : RowOf k w (.slice (some ad) n c) X) : n = X.length ∧ ∀ (j : Nat) (u : Value), (X.map (Value.int k))[j]? = some u → w.cell? (ad.add j) = some u := by
  obtain ⟨a', c', e, hr⟩ := h
  injection e with e1 e2 e3
  subst e1
  refine ⟨e2, fun j u hu => ?_⟩
  have hj : j < X.length := by have := (List.getElem?_eq_some_iff.1 hu).1; simpa using this
  obtain ⟨b, off, e, hc⟩ := hr (by intro e; rw [e] at hj; simp at hj)
  cases e
  rw [add_off, hc j hj]
  rw [List.getElem?_map, List.getElem?_eq_getElem hj] at hu
  simp [hj] at hu ⊢
  exact hu
theorem RowOf.none {k : IntKind} {w : World} {n c : Nat} {X : List Int} (h : RowOf k w (.slice none n c) X) : n = 0 ∧ X = [] := by
  obtain ⟨a', c', e, hr⟩ := h
  injection e with e1 e2 e3
  by_cases hne : X = []
  · subst hne; exact ⟨e2, rfl⟩
  · obtain ⟨b, off, e, _⟩ := hr hne
    rw [← e1] at e; cases e
/-- A row that may be cut. -/
def CutRow (w : World) (v : Value) (L : List Int) : Prop := RowOf .u8 w v L ∧ ∃ a c, v = .slice a L.length c ∧ L.length ≤ c ∧ (a = none → c = 0)
theorem OwnBytes.cut {base : Nat} {w : World} {v : Value} {L : List Int} (h : OwnBytes base w v L) : CutRow w v L := by
  refine ⟨h.row, ?_⟩
  rcases h.2 with ⟨rfl, h0⟩ | ⟨g, cap, cur, rfl, _, _, h1, _, _, _⟩
  · exact ⟨none, 0, by rw [h0], by omega, fun _ => rfl⟩
  · exact ⟨_, cap, rfl, h1, fun e => by cases e⟩
theorem CutRow.below {w w' : World} {v : Value} {L : List Int} (h : CutRow w v L) (t : Below w.heap.size w w') : CutRow w' v L := ⟨h.1.below t, h.2⟩
section
variable {ops : Array Oper} {rest : List Oper} {o : Oper} {a : Act} {w : World} {Q : Exit → Act → World → Prop}
theorem wp_append_row {K : Act → World → Prop} (s x : Operand) (ho : o.op = .call { callee := .builtin .append, args := #[s, x], argTypes := #[43, 43] })
    {base : Nat} {v u : Value} {L X : List Int} (hown : OwnBytes base w v L) (hr : RowOf .u8 w u X) (hu : ∀ n c, u = .slice Option.none n c → c = 0) (hs : a.eval s = v) (hx : a.eval x = u)
    (hm : L.length + X.length ≤ 10000000) (hb : base ≤ w.heap.size) {w0 : World} (hold : Below base w0 w)
    (h : ∀ v' w', OwnBytes base w' v' (L ++ X) → Below base w0 w' → Hid (v' = .slice Option.none 0 0 ↔ v = .slice Option.none 0 0 ∧ X.length = 0) → w.heap.size ≤ w'.heap.size → K (a.put o.dst v') w') : o.wp Try.prog a w K Q := by
  obtain ⟨i0, hi, hz0, hz1, hz2⟩ := info_parts info_byte
  have hgen := hr
  obtain ⟨ad, c, rfl, hrow⟩ := hr
  cases ad with
  | none =>
    obtain ⟨h0, rfl⟩ := hgen.none
    obtain rfl := hu _ _ rfl
    have hrun := run_append_owned_none (P := Try.prog) (w := w) base 43 o.type 5 i0 1 Try.underlying43 hi v L.length _ hown
    have hx : a.eval x = .slice Option.none 0 0 := hx
    unfold Oper.wp
    simp [execOp, ho, resolve, invoke, builtin, hs, hx, hrun, Result.andThen]
    exact h v w (by simpa using hown) hold (show _ ↔ _ by simp) (Nat.le_refl _)
  | some ad =>
    obtain ⟨_, hc⟩ := hgen.reads
    refine wp_append_own _ s x 43 ho base 5 i0 (.int .u8 0) 1 1 Try.underlying43 hi hz0 hz1 hz2 rfl (by decide) v L.length _ hs hown ad X.length c (X.map (Value.int .u8)) hx (by simp) hc (bytes_one X) (by unfold maxLen; omega) (by omega) hb ?_
    intro v' w' hown' hgrow hnil
    obtain ⟨h1, h2⟩ := hown.grown0 (X := X) hown' hgrow hold hb
    exact h v' w' h1 h2 hnil hgrow.size
theorem append_row (hgd : o.guard = Option.none) (s x : Operand) (ho : o.op = .call { callee := .builtin .append, args := #[s, x], argTypes := #[43, 43] })
    {base : Nat} {v u : Value} {L X : List Int} (hown : OwnBytes base w v L) (hr : RowOf .u8 w u X) (hu : ∀ n c, u = .slice Option.none n c → c = 0) (hs : a.eval s = v) (hx : a.eval x = u)
    (hm : L.length + X.length ≤ 10000000) (hb : base ≤ w.heap.size) {w0 : World} (hold : Below base w0 w)
    (h : ∀ v' w', OwnBytes base w' v' (L ++ X) → Below base w0 w' → Hid (v' = .slice Option.none 0 0 ↔ v = .slice Option.none 0 0 ∧ X.length = 0) → w.heap.size ≤ w'.heap.size → wpList Try.prog ops Q rest (a.put o.dst v') w') : wpList Try.prog ops Q (o :: rest) a w :=
  wpList_plain hgd fun _ hK => wp_append_row s x ho hown hr hu hs hx hm hb hold fun v' w' h1 h2 h3 h4 => hK _ _ (h v' w' h1 h2 h3 h4)
theorem step_append_row {K : Act → World → Prop} {E : Prop} (hgd : o.guard = Option.none) (s x : Operand) (ho : o.op = .call { callee := .builtin .append, args := #[s, x], argTypes := #[43, 43] })
    {base : Nat} {v u : Value} {L X : List Int} (hown : OwnBytes base w v L) (hr : RowOf .u8 w u X) (hu : ∀ n c, u = .slice Option.none n c → c = 0) (hs : a.eval s = v) (hx : a.eval x = u)
    (hm : L.length + X.length ≤ 10000000) (hb : base ≤ w.heap.size) {w0 : World} (hold : Below base w0 w)
    (h : ∀ v' w', OwnBytes base w' v' (L ++ X) → Below base w0 w' → Hid (v' = .slice Option.none 0 0 ↔ v = .slice Option.none 0 0 ∧ X.length = 0) → w.heap.size ≤ w'.heap.size → K (a.put o.dst v') w') :
    if Region.wanted o (yielded ops a.tmps) = true then Oper.wp Try.prog o a w K Q else E := by
  have hw : Region.wanted o (yielded ops a.tmps) = true := by simp [Region.wanted, hgd]
  rw [if_pos hw]
  exact wp_append_row s x ho hown hr hu hs hx hm hb hold h
end
theorem row_one8 (W : World) (x : Int) (t : TypeId) : RowOf .u8 (W.alloc (.cells #[.int .u8 x] t)) (.slice (some ⟨W.heap.size, 0, none⟩) 1 1) [x] := by
  refine ⟨_, 1, rfl, fun _ => ⟨_, 0, rfl, fun i hi => ?_⟩⟩
  obtain rfl : i = 0 := by simpa using hi
  simp [go_sem]
theorem row_one8d (W : World) (x : Int) (t : TypeId) : RowOf .u8 (W.alloc (.cells #[.int .u8 x] t)).drew (.slice (some ⟨W.heap.size, 0, none⟩) 1 1) [x] := (row_one8 W x t).kept fun _ _ _ h => h
end Go.Proofs.Ytglkjcdbffkbcaa.Base
