/-
  Rows of bytes of the call's own in a row of the call's own: append on them.
-/
import Derived.Test.YtimidoaafllnkaaRefA
import Derived.Test.YtimidoaafllnkaaAsA
import Derived.Test.YtimidoaafllnkaaIacD
namespace Go.Proofs.Ytimidoaafllnkaa.Iac
open Go.RowKit Base
set_option linter.unusedVariables false
set_option linter.unusedSimpArgs false

theorem info_bytes : (Try.prog.info? 24).map (fun i => (i.zero, i.size, i.bytes)) = some (some (.slice none 0 0), 1, 24) := by kernel_rfl
abbrev SlP := List Int × Value
structure SOwn (s : Nat) (w : World) (v : Value) (P : List SlP) : Prop where
  row : w.ownsRow s 24 1 v P.length (P.map (·.2))
  own : ∀ p ∈ P, OwnBytes s w p.2 p.1
theorem sl_ne {s s' : Nat} {w : World} {v u : Value} {n : Nat} {xs : List Value} {L : List Int} (h : w.ownsRow s 24 1 v n xs) (k : OwnBytes s' w u L) : ∀ g, v.ownBlock = some g → u.ownBlock = some g → False := by
  intro g e1 e2
  obtain ⟨c, fz, h1⟩ := Lib.ownsRow_kind h g e1
  obtain ⟨c', fz', h2⟩ := Lib.ownsRow_kind k g e2
  rw [h1] at h2
  cases h2
section
variable {s : Nat} {w w' w1 : World} {v v' u : Value} {P Q : List SlP} {L : List Int}
theorem SOwn.below (h : SOwn s w v P) (t : Below w.heap.size w w') : SOwn s w' v P := ⟨ownsRow_keep h.row fun g _ _ hl => t.block g hl, fun p hp => (h.own p hp).below t⟩
/-- Bytes of the call's own stand behind an append onto the row. -/
theorem own_grown {n : Nat} {xs : List Value} (h : OwnBytes s w u L) (hv : w.ownsRow s 24 1 v n xs) (hg : w.grownBy w1 v.ownBlock) : OwnBytes s w1 u L :=
  ownsRow_keep h fun g hqg _ hl => hg.block g hl fun ee => sl_ne hv h g ee.symm hqg
theorem SOwn.more (h : SOwn s w v P) (hq : ∀ p ∈ Q, OwnBytes s w p.2 p.1) (hown : w1.ownsRow s 24 1 v' (P.length + Q.length) (P.map (·.2) ++ Q.map (·.2))) (hg : w.grownBy w1 v.ownBlock) : SOwn s w1 v' (P ++ Q) := by
  refine ⟨by rw [List.length_append, List.map_append]; exact hown, fun p hp => ?_⟩
  rcases List.mem_append.1 hp with hp | hp
  · exact own_grown (h.own p hp) h.row hg
  · exact own_grown (hq p hp) h.row hg
theorem SOwn.rows (h : SOwn s w v P) : Rows8 w v (P.map (·.1)) := by
  rcases h.row.2 with ⟨rfl, h0⟩ | ⟨g, cap, cur, rfl, hg, hgb, _⟩
  · exact ⟨none, 0, by simp [h0], fun hne => absurd (by simpa using h0) hne⟩
  · refine ⟨_, cap, by simp, fun _ => ⟨g, 0, rfl, lt_of_block hgb, fun i e hi => ?_⟩⟩
    rw [List.getElem?_map] at hi
    obtain ⟨p, hp, rfl⟩ := Option.map_eq_some_iff.1 hi
    obtain ⟨hlt, _⟩ := List.getElem?_eq_some_iff.1 hp
    rw [Nat.zero_add]
    exact ⟨p.2, (h.row.cellAt _ (by omega)).trans (by rw [List.getElem?_map, hp]; rfl), (h.own p (List.mem_of_getElem? hp)).row⟩
theorem SOwn.nil (h : s ≤ w.heap.size) : SOwn s (w.alloc (.cells #[] 24)) (.slice (some ⟨w.heap.size, 0, none⟩) 0 0) [] :=
  ⟨⟨rfl, .inr ⟨w.heap.size, 0, #[], rfl, h, heap_alloc_new w _, by simp, by simp [maxLen], rfl, by simp⟩⟩, by simp⟩
theorem SOwn.form (h : SOwn s w v P) : ∃ a cap, v = .slice a P.length cap := row_form h.row
end
section
variable {ops : Array Oper} {rest : List Oper} {o : Oper} {a : Act} {w : World} {R : Exit → Act → World → Prop}
/-- Append of a row of slices that was made of them. -/
theorem wp_append_sl {K : Act → World → Prop} (x y : Operand) (ho : o.op = .call { callee := .builtin .append, args := #[x, y], argTypes := #[65, 65] })
    {s : Nat} {v : Value} {P Q : List SlP} {g c : Nat} (hown : SOwn s w v P) (hq : ∀ p ∈ Q, OwnBytes s w p.2 p.1) (hc : ∀ j u, (Q.map (·.2))[j]? = some u → w.cell? ((⟨g, 0, none⟩ : Addr).add j) = some u) {m : Nat} (hm' : m = Q.length) (hx : a.eval x = v) (hy : a.eval y = .slice (some ⟨g, 0, none⟩) m c)
    (hm : P.length + Q.length ≤ 100000) (hs : s ≤ w.heap.size)
    (h : ∀ v' w', SOwn s w' v' (P ++ Q) → w.grownBy w' v.ownBlock → K (a.put o.dst v') w') : o.wp Try.prog a w K R := by
  subst hm'
  obtain ⟨i0, hi, hz0, hz1, hz2⟩ := info_parts info_bytes
  refine wp_append_own _ x y 65 ho s 24 i0 (.slice none 0 0) 1 24 Try.underlying65 hi hz0 hz1 hz2 rfl (by decide) v P.length (P.map (·.2)) hx hown.row ⟨g, 0, none⟩ Q.length c (Q.map (·.2)) hy (by simp) hc (fun u hu => ?_) (by unfold maxLen; omega) (by omega) hs ?_
  · obtain ⟨p, hp, rfl⟩ := List.mem_map.1 hu
    obtain ⟨a', c', e⟩ := row_form (hq p hp)
    rw [e]; rfl
  · intro v' w' hown' hg _
    exact h v' w' (hown.more hq hown' hg) hg
theorem wpList_append_sl (hgd : o.guard = none) (x y : Operand) (ho : o.op = .call { callee := .builtin .append, args := #[x, y], argTypes := #[65, 65] })
    {s : Nat} {v : Value} {P Q : List SlP} {g c : Nat} (hown : SOwn s w v P) (hq : ∀ p ∈ Q, OwnBytes s w p.2 p.1) (hc : ∀ j u, (Q.map (·.2))[j]? = some u → w.cell? ((⟨g, 0, none⟩ : Addr).add j) = some u) {m : Nat} (hm' : m = Q.length) (hx : a.eval x = v) (hy : a.eval y = .slice (some ⟨g, 0, none⟩) m c)
    (hm : P.length + Q.length ≤ 100000) (hs : s ≤ w.heap.size)
    (h : ∀ v' w', SOwn s w' v' (P ++ Q) → w.grownBy w' v.ownBlock → wpList Try.prog ops R rest (a.put o.dst v') w') : wpList Try.prog ops R (o :: rest) a w :=
  wpList_plain hgd fun K hK => wp_append_sl x y ho hown hq hc hm' hx hy hm hs fun v' w' h1 h2 => hK _ _ (h v' w' h1 h2)
theorem step_append_sl {K : Act → World → Prop} {E : Prop} (hgd : o.guard = none) (x y : Operand) (ho : o.op = .call { callee := .builtin .append, args := #[x, y], argTypes := #[65, 65] })
    {s : Nat} {v : Value} {P Q : List SlP} {g c : Nat} (hown : SOwn s w v P) (hq : ∀ p ∈ Q, OwnBytes s w p.2 p.1) (hc : ∀ j u, (Q.map (·.2))[j]? = some u → w.cell? ((⟨g, 0, none⟩ : Addr).add j) = some u) {m : Nat} (hm' : m = Q.length) (hx : a.eval x = v) (hy : a.eval y = .slice (some ⟨g, 0, none⟩) m c)
    (hm : P.length + Q.length ≤ 100000) (hs : s ≤ w.heap.size)
    (h : ∀ v' w', SOwn s w' v' (P ++ Q) → w.grownBy w' v.ownBlock → K (a.put o.dst v') w') :
    if Region.wanted o (yielded ops a.tmps) = true then Oper.wp Try.prog o a w K R else E := by
  have hw : Region.wanted o (yielded ops a.tmps) = true := by simp [Region.wanted, hgd]
  rw [if_pos hw]
  exact wp_append_sl x y ho hown hq hc hm' hx hy hm hs h
end
theorem sl_cl (W : World) (vs : Array Value) (t : TypeId) : ∀ (j : Nat) (u : Value), vs.toList[j]? = some u → (W.alloc (.cells vs t)).cell? ((⟨W.heap.size, 0, none⟩ : Addr).add j) = some u := by
  intro j u hu
  have e : (⟨W.heap.size, 0, none⟩ : Addr).add j = ⟨W.heap.size, j, none⟩ := by unfold Addr.add; split <;> simp_all
  rw [e]
  have h := heap_alloc_new W (.cells vs t)
  have hv : vs[j]? = some u := by rw [← Array.getElem?_toList]; exact hu
  simp only [World.cell?, h]
  exact hv
theorem own1 (w : World) (a : Int) : OwnBytes w.heap.size (w.alloc (.cells #[.int .u8 a] 5)) (.slice (some ⟨w.heap.size, 0, none⟩) 1 1) [a] :=
  ⟨rfl, .inr ⟨w.heap.size, 1, #[.int .u8 a], rfl, Nat.le_refl _, heap_alloc_new w _, by simp, by simp [maxLen], by simp, by simp⟩⟩
/-- What stands while an event is written: the rows, the event's box, all that was. -/
structure WQ (w0 : World) (v : Value) (P : List SlP) (eb : Nat) (cs : Array Value) (Z : World) : Prop where
  own : SOwn w0.heap.size Z v P
  box : Z.heap[eb]? = some (.cells cs 32 (0, 0))
  old : Below w0.heap.size w0 Z
section
variable {w0 Z Z' : World} {v : Value} {P : List SlP} {eb : Nat} {cs : Array Value}
theorem WQ.below (h : WQ w0 v P eb cs Z) (t : Below Z.heap.size Z Z') : WQ w0 v P eb cs Z' := ⟨h.own.below t, (t.block eb (lt_of_block h.box)).trans h.box, h.old.trans (t.mono h.old.size)⟩
theorem WQ.drew (h : WQ w0 v P eb cs Z) : WQ w0 v P eb cs Z.drew := h.below (Below.refl _ _).drew
theorem WQ.cells {x0 x1 x2 x3 : Value} (h : WQ w0 v P eb #[x0, x1, x2, x3] Z) : Z.cell? ⟨eb, 2, none⟩ = some x2 ∧ Z.cell? ⟨eb, 3, none⟩ = some x3 := by
  simp [World.cell?, h.box]
theorem WQ.all {x0 x1 x2 x3 : Value} (h : WQ w0 v P eb #[x0, x1, x2, x3] Z) : Z.cell? ⟨eb, 0, none⟩ = some x0 ∧ Z.cell? ⟨eb, 1, none⟩ = some x1 ∧ Z.cell? ⟨eb, 2, none⟩ = some x2 ∧ Z.cell? ⟨eb, 3, none⟩ = some x3 := by
  simp [World.cell?, h.box]
theorem WQ.grown (h : WQ w0 v P eb cs Z) {v' : Value} {Q : List SlP} (hown : SOwn w0.heap.size Z' v' Q) (hg : Z.grownBy Z' v.ownBlock) : Below w0.heap.size w0 Z' :=
  h.old.grown hg h.old.size (fun r e => row_first h.own.row r e)
end
end Go.Proofs.Ytimidoaafllnkaa.Iac
