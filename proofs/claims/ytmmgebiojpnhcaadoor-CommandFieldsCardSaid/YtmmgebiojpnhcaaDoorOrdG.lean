/-
  An order.
-/
import Derived.Test.YtmmgebiojpnhcaaDoorOrdF
namespace Go.Proofs.YtmmgebiojpnhcaaDoor.Ord
open Go.RowKit Base
set_option linter.unusedVariables false
set_option linter.unusedSimpArgs false

/-- An order. -/
structure Or where
  kind : Int
  addr : Int
  byte : Int
  ge : Bool
  pairs : List (Int × Int)
  data : List Int
/-- What stands behind an order's byte. -/
def ordK (L : List Int) (k : Int) (j : Nat) : Rd Or :=
  if k = 5 ∨ k = 19 then .ok ⟨k, 0, 0, false, [], []⟩ j
  else if k = 17 ∨ k = 18 then (placeM L j).andThen fun x l => .ok ⟨k, x, 0, false, [], []⟩ l
  else if k = 8 then (nx L j).andThen fun c l => (shownM c true l).andThen fun p m => .ok ⟨k, 0, p.1, false, [], []⟩ m
  else if k = 60 then (placeM L j).andThen fun x l => (signM L l).andThen fun p m => .ok ⟨k, x, p.1, p.2, [], []⟩ m
  else if k = 29 then (nx L j).andThen fun c l => .ok ⟨k, 0, c % 64, false, [], []⟩ l
  else if k = 40 then (pairsM L k 1 j).andThen fun ps l => .ok ⟨k, 0, 0, false, ps, []⟩ l
  else if k = 41 ∨ k = 44 then (nx L j).andThen fun c l => (pairsM L k c.toNat l).andThen fun ps m => .ok ⟨k, 0, 0, false, ps, []⟩ m
  else .bad .none
/-- The order that begins at a place. -/
def orderM (L : List Int) (i : Nat) : Rd Or :=
  if plain (L[i]?.getD 0) = true then .ok ⟨0, 0, 0, false, [], dataL L i⟩ (i + (dataL L i).length) else ordK L (L[i]?.getD 0) (i + 1)
/-- An order in memory. -/
def OrdV (s : Nat) (w : World) (o : Or) (V : Value) : Prop := ∃ vp vd, V = .agg #[.int .u8 o.kind, .int .i64 o.addr, .int .u8 o.byte, .bool o.ge, vp, vd] ∧ PairRow s w vp o.pairs ∧ OwnBytes s w vd o.data
theorem info_ord : (Tryd.prog.info? 92).map (fun i => (i.zero, i.size)) = some (some (.agg #[.int .u8 0, .int .i64 0, .int .u8 0, .bool false, .slice none 0 0, .slice none 0 0]), 6) := by kernel_rfl
theorem size_ord : (Tryd.prog.info? 92).map (·.size) = some 6 := by kernel_rfl
theorem load_ord {g : Nat} {W : World} {cs : Array Value} (hr : W.heap[g]? = some (.cells cs 92 (0, 0))) (hs : cs.size = 6) : (loadVar 92 ⟨g, 0, none⟩).run Tryd.prog W = .ok (.agg cs) W :=
  run_loadVar_row _ g 92 92 _ (0, 0) _ hr Tryd.underlying92 rfl (by rw [hs]; exact size_ord)
theorem cells6 {W : World} {g : Nat} {x0 x1 x2 x3 x4 x5 : Value} {t : TypeId} (h : W.heap[g]? = some (.cells #[x0, x1, x2, x3, x4, x5] t (0, 0))) :
    W.cell? ⟨g, 0, none⟩ = some x0 ∧ W.cell? ⟨g, 1, none⟩ = some x1 ∧ W.cell? ⟨g, 2, none⟩ = some x2 ∧ W.cell? ⟨g, 3, none⟩ = some x3 ∧ W.cell? ⟨g, 4, none⟩ = some x4 ∧ W.cell? ⟨g, 5, none⟩ = some x5 ∧
    W.frozen? ⟨g, 0, none⟩ = false ∧ W.frozen? ⟨g, 1, none⟩ = false ∧ W.frozen? ⟨g, 2, none⟩ = false ∧ W.frozen? ⟨g, 3, none⟩ = false ∧ W.frozen? ⟨g, 4, none⟩ = false ∧ W.frozen? ⟨g, 5, none⟩ = false := by
  simp [World.cell?, World.frozen?, h]
def put6 (W : World) (g : Nat) (x0 x1 x2 x3 x4 x5 : Value) : World := (((((W.setCell ⟨g, 0, none⟩ x0).setCell ⟨g, 1, none⟩ x1).setCell ⟨g, 2, none⟩ x2).setCell ⟨g, 3, none⟩ x3).setCell ⟨g, 4, none⟩ x4).setCell ⟨g, 5, none⟩ x5
theorem put6_turn (W : World) (g : Nat) (x0 x1 x2 x3 x4 x5 : Value) : Turn (At g) W (put6 W g x0 x1 x2 x3 x4 x5) :=
  (((((turn_set W g 0 x0).trans (turn_set _ g 1 x1)).trans (turn_set _ g 2 x2)).trans (turn_set _ g 3 x3)).trans (turn_set _ g 4 x4)).trans (turn_set _ g 5 x5)
theorem put6_row {W : World} {g : Nat} {y0 y1 y2 y3 y4 y5 : Value} {t : TypeId} (h : W.heap[g]? = some (.cells #[y0, y1, y2, y3, y4, y5] t (0, 0))) (x0 x1 x2 x3 x4 x5 : Value) : (put6 W g x0 x1 x2 x3 x4 x5).heap[g]? = some (.cells #[x0, x1, x2, x3, x4, x5] t (0, 0)) := by
  have := heap_set (heap_set (heap_set (heap_set (heap_set (heap_set h 0 x0) 1 x1) 2 x2) 3 x3) 4 x4) 5 x5
  simpa [put6] using this
theorem turn_high {S : Nat → Prop} {x y z : World} (h : Turn S x y) {q : Nat} (hq : x.heap.size ≤ q) (k : Turn (At q) y z) : Turn S x z :=
  ⟨k.os.trans h.os, k.tape.trans h.tape, k.output.trans h.output, Nat.le_trans h.size k.size, fun j hj hS => (k.block j (Nat.lt_of_lt_of_le hj h.size) (fun e => by have : j = q := e; omega)).trans (h.block j hj hS)⟩
theorem PairRow.base {s s' : Nat} {w : World} {v : Value} {ps : List (Int × Int)} (h : PairRow s w v ps) (hb : s' ≤ s) : PairRow s' w v ps := ownsRow_base h hb
/-- The result in block s, the order so far in block q. -/
structure OQ (w : World) (b : Nat) (a : Option Addr) (cap : Nat) (L : List Int) (s q : Nat) (o : Or) (vp vd : Value) (j : Nat) (W : World) : Prop where
  ob : W.heap[q]? = some (.cells #[.int .u8 o.kind, .int .i64 o.addr, .int .u8 o.byte, .bool o.ge, vp, vd] 92 (0, 0))
  pr : PairRow (q + 1) W vp o.pairs
  dr : OwnBytes (q + 1) W vd o.data
  rd : Rdr W b a cap L j
  t : Turn (At b) w W
  res : W.heap[s]? = some (.cells #[.int .u8 0, .int .i64 0, .int .u8 0, .bool false, .slice none 0 0, .slice none 0 0] 92 (0, 0))
  hs : s = w.heap.size
  sq : s < q
  bs : b < s
section
variable {w w' W W' : World} {b : Nat} {a : Option Addr} {cap : Nat} {L : List Int} {i s q j j' : Nat} {o : Or} {vp vd : Value}
/-- The reader went on. -/
theorem OQ.rdr (h : OQ w b a cap L s q o vp vd j W) (t : Turn (At b) W W') (r : Rdr W' b a cap L j') : OQ w b a cap L s q o vp vd j' W' := by
  have h1 := h.sq; have h2 := h.bs
  have hT : ∀ k, At b k → k < q + 1 := fun k hk => by have : k = b := hk; omega
  exact ⟨(t.block q (lt_of_block h.ob) (fun e => by have : q = b := e; omega)).trans h.ob, h.pr.turn t hT, h.dr.keep fun g hg hl => t.block g hl (fun e => by have : g = b := e; omega), r, h.t.trans t, (t.block s (lt_of_block h.res) (fun e => by have : s = b := e; omega)).trans h.res, h.hs, h.sq, h.bs⟩
theorem OQ.below (h : OQ w b a cap L s q o vp vd j W) (t : Below W.heap.size W W') : OQ w b a cap L s q o vp vd j W' := h.rdr (Turn.of_below t) (h.rd.below t)
/-- The order's block was turned. -/
theorem OQ.put {o' : Or} {vp' vd' : Value} (h : OQ w b a cap L s q o vp vd j W) (t : Turn (At q) W W') (hb : W'.heap[q]? = some (.cells #[.int .u8 o'.kind, .int .i64 o'.addr, .int .u8 o'.byte, .bool o'.ge, vp', vd'] 92 (0, 0))) (hp : PairRow (q + 1) W vp' o'.pairs) (hd : OwnBytes (q + 1) W vd' o'.data) : OQ w b a cap L s q o' vp' vd' j W' := by
  have h1 := h.sq; have h2 := h.bs; have h3 := h.hs
  have hT : ∀ k, At q k → k < q + 1 := fun k hk => by have : k = q := hk; omega
  exact ⟨hb, hp.turn t hT, hd.keep fun g hg hl => t.block g hl (fun e => by have : g = q := e; omega), h.rd.high (t.mono fun k hk => by have : k = q := hk; omega), turn_high h.t (by omega) t, (t.block s (lt_of_block h.res) (fun e => by have : s = q := e; omega)).trans h.res, h.hs, h.sq, h.bs⟩
theorem OQ.fin (h : OQ w b a cap L s q o vp vd j W) (x0 x1 x2 x3 x4 x5 : Value) : Turn (At b) w (put6 W s x0 x1 x2 x3 x4 x5) ∧ Rdr (put6 W s x0 x1 x2 x3 x4 x5) b a cap L j ∧ PairRow w.heap.size (put6 W s x0 x1 x2 x3 x4 x5) vp o.pairs ∧ OwnBytes w.heap.size (put6 W s x0 x1 x2 x3 x4 x5) vd o.data ∧ (put6 W s x0 x1 x2 x3 x4 x5).heap[s]? = some (.cells #[x0, x1, x2, x3, x4, x5] 92 (0, 0)) := by
  have h1 := h.sq; have h2 := h.bs; have h3 := h.hs
  have t := put6_turn W s x0 x1 x2 x3 x4 x5
  have hT : ∀ k, At s k → k < q + 1 := fun k hk => by have : k = s := hk; omega
  exact ⟨turn_high h.t (by omega) t, h.rd.high (t.mono fun k hk => by have : k = s := hk; omega), (h.pr.turn t hT).base (by omega), (h.dr.keep fun g hg hl => t.block g hl (fun e => by have : g = s := e; omega)).lower (by omega), put6_row h.res ..⟩
end
theorem nx_ok {L : List Int} {i : Nat} {c : Int} {l : Nat} (h : nx L i = .ok c l) : c = L[i]?.getD 0 ∧ l = i + 1 ∧ i < L.length := by
  unfold nx at h
  cases e : L[i]? with
  | none => rw [e] at h; cases h
  | some x =>
    rw [e] at h
    injection h with h1 h2
    exact ⟨by simp [h1], h2.symm, (List.getElem?_eq_some_iff.1 e).1⟩
theorem ord_cases (k : Int) : k = 5 ∨ k = 19 ∨ k = 17 ∨ k = 18 ∨ k = 8 ∨ k = 60 ∨ k = 29 ∨ k = 40 ∨ k = 41 ∨ k = 44 ∨ ((k == 5) = false ∧ (k == 19) = false ∧ (k == 17) = false ∧ (k == 18) = false ∧ (k == 8) = false ∧ (k == 60) = false ∧ (k == 29) = false ∧ (k == 40) = false ∧ (k == 41) = false ∧ (k == 44) = false) := by simp; omega
end Go.Proofs.YtmmgebiojpnhcaaDoor.Ord
