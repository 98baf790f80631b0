/-
  An order's bytes: write.
-/
import Derived.Test.YtmmgebiojpnhcaaDoorOrdY
import Derived.Test.YtmmgebiojpnhcaaDoorOrdR
namespace Go.Proofs.YtmmgebiojpnhcaaDoor.Ord
open Go.RowKit Base
set_option linter.unusedVariables false
set_option linter.unusedSimpArgs false

def flatI (ps : List (Int × Int)) : List Int := ps.flatMap fun p => [p.1, p.2]
theorem flatI_len (ps : List (Int × Int)) : (flatI ps).length = ps.length * 2 := by
  induction ps with
  | nil => rfl
  | cons p ps ih =>
    show ([p.1, p.2] ++ flatI ps).length = _
    rw [List.length_append, ih]
    simp
    omega
theorem flatI_take (ps : List (Int × Int)) (j : Nat) (x : Int × Int) (h : ps[j]? = some x) : flatI (ps.take (j + 1)) = flatI (ps.take j) ++ [x.1, x.2] := by
  unfold flatI
  rw [List.take_add_one, h]
  simp
def encT (o : Or) : List Int := if o.kind = 29 then [Dig.dig (o.byte % 64)] else if o.kind = 8 then [o.byte] else if o.kind = 60 then (if o.ge = true then [8] else []) ++ [o.byte] else (if o.kind = 41 ∨ o.kind = 44 then [(o.pairs.length : Int)] else []) ++ flatI o.pairs
def encO (o : Or) (n : Int) : List Int := if o.kind = 0 then o.data else [o.kind] ++ (if hasA o.kind = true then [Dig.encA o.addr n, Dig.encB o.addr n] else []) ++ encT o
section
variable {ops : Array Oper} {rest : List Oper} {o : Oper} {a : Act} {w : World} {Q : Exit → Act → World → Prop}
theorem wp_append_grow {K : Act → World → Prop} (s x : Operand) (ho : o.op = .call { callee := .builtin .append, args := #[s, x], argTypes := #[22, 22] })
    {base : Nat} {v u : Value} {L X : List Int} (hown : OwnBytes base w v L) (hr : RowOf .u8 w u X) (hu : ∀ n c, u = .slice Option.none n c → c = 0) (hs : a.eval s = v) (hx : a.eval x = u)
    (hm : L.length + X.length ≤ 10000000) (hb : base ≤ w.heap.size)
    (h : ∀ v' w', OwnBytes base w' v' (L ++ X) → w.grownBy w' v.ownBlock → K (a.put o.dst v') w') : o.wp Tryd.prog a w K Q := by
  obtain ⟨i0, hi, hz0, hz1, hz2⟩ := info_parts info_byte
  have hgen := hr
  obtain ⟨ad, c, rfl, hrow⟩ := hr
  cases ad with
  | none =>
    obtain ⟨h0, rfl⟩ := hgen.none
    obtain rfl := hu _ _ rfl
    have hrun := run_append_owned_none (P := Tryd.prog) (w := w) base 22 o.type 5 i0 1 Tryd.underlying22 hi v L.length _ hown
    have hx : a.eval x = .slice Option.none 0 0 := hx
    unfold Oper.wp
    simp [execOp, ho, resolve, invoke, builtin, hs, hx, hrun, Result.andThen]
    exact h v w (by simpa using hown) ⟨rfl, rfl, rfl, Nat.le_refl _, fun _ _ _ => rfl⟩
  | some ad =>
    obtain ⟨_, hc⟩ := hgen.reads
    refine wp_append_own _ s x 22 ho base 5 i0 (.int .u8 0) 1 1 Tryd.underlying22 hi hz0 hz1 hz2 rfl (by decide) v L.length _ hs hown ad X.length c (X.map (Value.int .u8)) hx (by simp) hc (bytes_one X) (by unfold maxLen; omega) (by omega) hb ?_
    intro v' w' hown' hgrow hnil
    refine h v' w' ?_ hgrow
    unfold OwnBytes
    rw [List.length_append, List.map_append]
    exact hown'
theorem append_grow (hgd : o.guard = Option.none) (s x : Operand) (ho : o.op = .call { callee := .builtin .append, args := #[s, x], argTypes := #[22, 22] })
    {base : Nat} {v u : Value} {L X : List Int} (hown : OwnBytes base w v L) (hr : RowOf .u8 w u X) (hu : ∀ n c, u = .slice Option.none n c → c = 0) (hs : a.eval s = v) (hx : a.eval x = u)
    (hm : L.length + X.length ≤ 10000000) (hb : base ≤ w.heap.size)
    (h : ∀ v' w', OwnBytes base w' v' (L ++ X) → w.grownBy w' v.ownBlock → wpList Tryd.prog ops Q rest (a.put o.dst v') w') : wpList Tryd.prog ops Q (o :: rest) a w :=
  wpList_plain hgd fun _ hK => wp_append_grow s x ho hown hr hu hs hx hm hb fun v' w' h1 h2 => hK _ _ (h v' w' h1 h2)
end
/-- The order in block ob, the bytes so far. -/
structure WQ (s ob : Nat) (cs : Array Value) (w0 W : World) (v : Value) (L : List Int) : Prop where
  own : OwnBytes s W v L
  box : W.heap[ob]? = some (.cells cs 92 (0, 0))
  old : Below s w0 W
  lo : s ≤ ob
section
variable {s ob : Nat} {cs : Array Value} {w0 W W' : World} {v v' : Value} {L L' : List Int}
theorem WQ.size (h : WQ s ob cs w0 W v L) : s ≤ W.heap.size := Nat.le_trans h.lo (Nat.le_of_lt (lt_of_block h.box))
theorem WQ.below (h : WQ s ob cs w0 W v L) (t : Below W.heap.size W W') : WQ s ob cs w0 W' v L := ⟨h.own.below t, (t.block ob (lt_of_block h.box)).trans h.box, h.old.trans (t.mono h.size), h.lo⟩
theorem WQ.alloc (h : WQ s ob cs w0 W v L) (o : Obj) : WQ s ob cs w0 (W.alloc o) v L := h.below (below_alloc W o)
theorem WQ.grown (h : WQ s ob cs w0 W v L) (hown : OwnBytes s W' v' L') (hg : W.grownBy W' v.ownBlock) : WQ s ob cs w0 W' v' L' := by
  refine ⟨hown, (hg.block ob (lt_of_block h.box) fun e => ?_).trans h.box, h.old.grown hg h.size (fun r e => h.own.first r e), h.lo⟩
  obtain ⟨c, fz, h1⟩ := Lib.ownsRow_kind h.own ob e.symm
  have := h.box
  rw [h1] at this
  injection this with this
  injection this with _ this
  exact absurd this (by decide)
theorem WQ.form (h : WQ s ob cs w0 W v L) : ∃ a c, v = .slice a L.length c := h.own.slice
end
theorem RowIn.belowS {s : Nat} {w0 W : World} {v : Value} {L : List Int} (h : RowIn (fun k => k < s) .u8 w0 v L) (t : Below s w0 W) : RowOf .u8 W v L := by
  obtain ⟨a, c, rfl, hr⟩ := h
  refine ⟨a, c, rfl, fun hne => ?_⟩
  obtain ⟨g, off, rfl, hg, hl, hi⟩ := hr hne
  exact ⟨g, off, rfl, fun i h => (cell_block (t.block g hg) _).trans (hi i h)⟩
theorem PrLow.belowS {s : Nat} {w0 W : World} {v : Value} {ps : List (Int × Int)} (h : PrLow s w0 v ps) (t : Below s w0 W) : PrLow s W v ps := h.keep fun g hg _ => t.block g hg
end Go.Proofs.YtmmgebiojpnhcaaDoor.Ord
