/-
  What the statements' own example of iac needs.
-/
import Derived.Test.YtimidoaafllnkaaJoinA
namespace Go.Proofs.Ytimidoaafllnkaa.Iac
open Go.RowKit Base
set_option linter.unusedVariables false

def zdec : Array Value := #[.int .i64 0, .int .u8 0] ++ zsub
theorem info_dec : (Try.prog.info? 102).map (fun i => (i.zero, i.size)) = some (some (.agg zdec), 262) := by kernel_rfl
theorem dec_new (w : World) : DecAt (w.alloc (.cells zdec 102)) w.heap.size dec0 := by
  refine ⟨zdec, heap_alloc_new w _, ?_⟩
  have hz : zdec.size = 262 := by kernel_rfl
  have hg : ∀ i, zdec[2 + i]? = zsubL[i]? := fun i => by
    unfold zdec zsub
    rw [Array.getElem?_append_right (by show 2 ≤ 2 + i; omega)]
    show zsubL.toArray[2 + i - 2]? = _
    rw [show 2 + i - 2 = i by omega]
    simp
  refine ⟨hz, by kernel_rfl, by kernel_rfl, by kernel_rfl, by kernel_rfl, fun i hi => ⟨0, ?_⟩, fun i hi => by simp [dec0] at hi, by kernel_rfl, by kernel_rfl, by simp [dec0]⟩
  rw [show 4 + i = 2 + (2 + i) by omega, hg]
  exact zsub_byte i hi
theorem lit_own (w : World) (cs : Array Value) (L : List Int) (h : cs = (L.map (Value.int .u8)).toArray) (hl : L.length ≤ maxLen) (n : Nat) (hn : n = L.length) : OwnBytes w.heap.size (w.alloc (.cells cs 5)) (.slice (some ⟨w.heap.size, 0, none⟩) n n) L := by
  subst h hn
  exact ⟨by simp, .inr ⟨w.heap.size, _, _, rfl, Nat.le_refl _, heap_alloc_new w _, Nat.le_refl _, hl, by simp, by simpa using List.take_of_length_le (by simp)⟩⟩
theorem map1 {P : List EvP} {a : Ev} (h : P.map (·.1) = [a]) : ∃ u, P = [(a, u)] := by
  match P, h with
  | [(x, u)], h => simp at h; subst h; exact ⟨u, rfl⟩
theorem map3 {P : List EvP} {a b c : Ev} (h : P.map (·.1) = [a, b, c]) : ∃ u v w, P = [(a, u), (b, v), (c, w)] := by
  match P, h with
  | [(x, u), (y, v), (z, w)], h => simp at h; obtain ⟨rfl, rfl, rfl⟩ := h; exact ⟨u, v, w, rfl⟩
theorem EvsOwn.three {s : Nat} {w : World} {v x y z : Value} {a b c : Ev} (h : EvsOwn s w v [(a, x), (b, y), (c, z)]) :
    ∃ g cap, v = .slice (some ⟨g, 0, none⟩) 3 cap ∧ s ≤ g ∧ g < w.heap.size ∧ w.cell? ⟨g, 0, none⟩ = some (.int .i64 a.kind) ∧ w.cell? ⟨g, 1, none⟩ = some (.int .u8 a.code) ∧ w.cell? ⟨g, 2, none⟩ = some (.int .u8 a.option) ∧ w.cell? ⟨g, 4, none⟩ = some (.int .i64 b.kind) ∧ w.cell? ⟨g, 7, none⟩ = some y ∧ w.cell? ⟨g, 8, none⟩ = some (.int .i64 c.kind) := by
  obtain ⟨g, cap, e, h1, h2, a0, a1, a2, a3, _⟩ := h.get (i := 0) (p := (a, x)) rfl
  obtain ⟨g', cap', e', _, _, b0, b1, b2, b3, _⟩ := h.get (i := 1) (p := (b, y)) rfl
  obtain ⟨g'', cap'', e'', _, _, c0, c1, c2, c3, _⟩ := h.get (i := 2) (p := (c, z)) rfl
  have e1 := slice_g (e.symm.trans e')
  have e2 := slice_g (e.symm.trans e'')
  subst e1 e2
  exact ⟨g, cap, e, h1, h2, a0, a1, a2, b0, b3, c0⟩
theorem fd8 : feedD dec0 [255, 253, 25, 1, 255, 255, 255, 239] = (⟨0, 253, false, 0, [], false⟩, [⟨4, 253, 25, []⟩, ⟨1, 0, 0, [1, 255]⟩, ⟨2, 0, 0, []⟩]) := by with_unfolding_all rfl
theorem fd1 : feedD ⟨0, 253, false, 0, [], false⟩ [255] = (⟨1, 253, false, 0, [], false⟩, []) := by with_unfolding_all rfl
theorem wr3 : writeL [⟨4, 253, 25, []⟩, ⟨1, 0, 0, [1, 255]⟩, ⟨2, 0, 0, []⟩] = [255, 253, 25, 1, 255, 255, 255, 239] := by with_unfolding_all rfl
theorem tl1 : tellL 24 [0] = [255, 250, 24, 0, 255, 240] := by with_unfolding_all rfl
theorem rc1 : escL [255] ++ [255, 239] = [255, 255, 255, 239] := by with_unfolding_all rfl
theorem es2 : escL [255, 1] = [255, 255, 1] := by with_unfolding_all rfl
theorem jn2 : joinL [⟨1, 0, 0, []⟩, ⟨2, 0, 0, []⟩] = [⟨2, 0, 0, []⟩] := by with_unfolding_all rfl
def b8 : List Int := [255, 253, 25, 1, 255, 255, 255, 239]
structure AL (w : World) (b : Nat) (v x y z : Value) (W : World) : Prop where
  es : EvsOwn (b + 2) W v [(⟨4, 253, 25, []⟩, x), (⟨1, 0, 0, [1, 255]⟩, y), (⟨2, 0, 0, []⟩, z)]
  lit : OwnBytes (b + 1) W (.slice (some ⟨b + 1, 0, none⟩) 8 8) b8
  old : Below b w W
theorem AL.turn {w W W' : World} {b : Nat} {v x y z : Value} (h : AL w b v x y z W) (t : Turn (fun k => k = b ∨ W.heap.size ≤ k) W W') (hb : b < W.heap.size) : AL w b v x y z W' :=
  ⟨h.es.keep fun g hg hl => t.block g hl (by omega), h.lit.keep fun g hg hl => t.block g hl (by omega), h.old.trans (t.below (by omega) fun k hk => by omega)⟩
theorem AL.below {w W W' : World} {b : Nat} {v x y z : Value} (h : AL w b v x y z W) (t : Below W.heap.size W W') : AL w b v x y z W' :=
  ⟨h.es.below t, h.lit.below t, h.old.trans (t.mono (by have := (own_lt h.lit (b + 1) rfl).2; omega))⟩
theorem AL.alloc {w W : World} {b : Nat} {v x y z : Value} (h : AL w b v x y z W) (o : Obj) : AL w b v x y z (W.alloc o) := h.below (below_alloc W o)
theorem AL.lt {w W : World} {b : Nat} {v x y z : Value} (h : AL w b v x y z W) : b + 1 < W.heap.size := (own_lt h.lit (b + 1) rfl).2
/-- A row of bytes as a string, written out. -/
theorem own_str {s : Nat} {w : World} {v : Value} {L : List Int} (h : OwnBytes s w v L) (d : Array UInt8) (hd : strOfNums L = ⟨d⟩) : (convert 24 9 v).run Try.prog w = .ok (.string ⟨d⟩) w := by
  rw [← hd]; exact row_str h.row
theorem open_true {b : Nat} {w : World} (h : DecAt w b ⟨1, 253, false, 0, [], false⟩) : Calls Try.prog 63 #[.pointer (some ⟨b, 0, none⟩)] w fun e w' => e = .returned (.bool true) ∧ w = w' := open_any h
structure AQ (w : World) (b g cap : Nat) (x y z : Value) (W : World) : Prop where
  al : AL w b (.slice (some ⟨g, 0, none⟩) 3 cap) x y z W
  dec : DecAt W b ⟨1, 253, false, 0, [], false⟩
theorem AQ.below {w W W' : World} {b g cap : Nat} {x y z : Value} (h : AQ w b g cap x y z W) (t : Below W.heap.size W W') : AQ w b g cap x y z W' := ⟨h.al.below t, h.dec.below t⟩
theorem AQ.alloc {w W : World} {b g cap : Nat} {x y z : Value} (h : AQ w b g cap x y z W) (o : Obj) : AQ w b g cap x y z (W.alloc o) := h.below (below_alloc W o)
def SQ' (w : World) (b g cap : Nat) (x y z : Value) (W : World) : Prop := W.cell? ⟨g, 0, none⟩ = some (.int .i64 4) ∧ W.cell? ⟨g, 1, none⟩ = some (.int .u8 253) ∧ W.cell? ⟨g, 2, none⟩ = some (.int .u8 25) ∧ W.cell? ⟨g, 4, none⟩ = some (.int .i64 1) ∧ W.cell? ⟨g, 7, none⟩ = some y ∧ W.cell? ⟨g, 8, none⟩ = some (.int .i64 2) ∧ (convert 24 9 y).run Try.prog W = .ok (.string ⟨#[1, 255]⟩) W ∧ (convert 24 9 (.slice (some ⟨b + 1, 0, none⟩) 8 8)).run Try.prog W = .ok (.string ⟨#[255, 253, 25, 1, 255, 255, 255, 239]⟩) W ∧ AQ w b g cap x y z W
theorem AQ.s {w W : World} {b g cap : Nat} {x y z : Value} (h : AQ w b g cap x y z W) : W.cell? ⟨g, 0, none⟩ = some (.int .i64 4) ∧ W.cell? ⟨g, 1, none⟩ = some (.int .u8 253) ∧ W.cell? ⟨g, 2, none⟩ = some (.int .u8 25) ∧ W.cell? ⟨g, 4, none⟩ = some (.int .i64 1) ∧ W.cell? ⟨g, 7, none⟩ = some y ∧ W.cell? ⟨g, 8, none⟩ = some (.int .i64 2) ∧ (convert 24 9 y).run Try.prog W = .ok (.string ⟨#[1, 255]⟩) W ∧ (convert 24 9 (.slice (some ⟨b + 1, 0, none⟩) 8 8)).run Try.prog W = .ok (.string ⟨#[255, 253, 25, 1, 255, 255, 255, 239]⟩) W ∧ AQ w b g cap x y z W := by
  obtain ⟨g', cap', e, _, _, c0, c1, c2, c4, c7, c8⟩ := h.al.es.three
  obtain rfl := slice_g e
  exact ⟨c0, c1, c2, c4, c7, c8, own_str (h.al.es.own (⟨1, 0, 0, [1, 255]⟩, y) (by simp)) _ (by with_unfolding_all rfl), own_str h.al.lit _ (by with_unfolding_all rfl), h⟩
theorem evs2_new (w : World) : EvsAt (w.alloc (.cells #[.int .i64 1, .int .u8 0, .int .u8 0, .slice none 0 0, .int .i64 2, .int .u8 0, .int .u8 0, .slice none 0 0] 26)) (.slice (some ⟨w.heap.size, 0, none⟩) 2 2) [⟨1, 0, 0, []⟩, ⟨2, 0, 0, []⟩] := by
  refine ⟨_, 2, rfl, fun _ => ⟨_, 0, rfl, by simp, fun i e hi => ?_⟩⟩
  match i, hi with
  | 0, hi => simp at hi; subst hi; exact ⟨.slice none 0 0, by simp [go_sem], by simp [go_sem], by simp [go_sem], by simp [go_sem], RowOf.nil _ _⟩
  | 1, hi => simp at hi; subst hi; exact ⟨.slice none 0 0, by simp [go_sem], by simp [go_sem], by simp [go_sem], by simp [go_sem], RowOf.nil _ _⟩
end Go.Proofs.Ytimidoaafllnkaa.Iac
