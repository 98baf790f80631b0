/-
  A clock and the reference's clock, side by side: each call of a step.
-/
import Derived.Test.YtngmnfnnkladbaaClockRefF
import Derived.Test.YtngmnfnnkladbaaOpen
namespace Go.Proofs.Ytngmnfnnkladbaa.Clock
open Go.RowKit
open Mail (Turn ret_int ret_bool sameInts_any RowOf ownsRow_base info_int)
set_option linter.unusedVariables false

/-- The clock in block s, the reference's clock in the next. -/
structure PQ (s : Nat) (w : World) (nc : Int) (L : List (Int × Int)) (nr : Int) (R : List (Int × Int)) (v : Value) (wr : World) : Prop where
  one : One s w wr nc L
  box : wr.heap[s + 1]? = some (.cells #[.int .i64 nr, v] 60 (0, 0))
  row : RefRow (s + 2) wr v R
section
variable {s : Nat} {w wr w' : World} {nc nr : Int} {L R : List (Int × Int)} {v : Value}
theorem PQ.lt (h : PQ s w nc L nr R v wr) : s + 2 ≤ wr.heap.size := by have := lt_of_block h.box; omega
theorem PQ.below (h : PQ s w nc L nr R v wr) (u : Below wr.heap.size wr w') : PQ s w nc L nr R v w' :=
  ⟨h.one.below (u.mono (by have := h.lt; omega)), (u.block (s + 1) (lt_of_block h.box)).trans h.box, h.row.below u⟩
theorem PQ.alloc (h : PQ s w nc L nr R v wr) (o : Obj) : PQ s w nc L nr R v (wr.alloc o) := h.below ((Below.refl _ wr).alloc (Nat.le_refl _) o)
theorem PQ.drewN (h : PQ s w nc L nr R v wr) (n : Nat) : PQ s w nc L nr R v (wr.drewN n) := h.below (below_drewN (Below.refl _ wr) n)
/-- A step of the clock alone. -/
theorem PQ.turn {nc' : Int} {L' : List (Int × Int)} (h : PQ s w nc L nr R v wr) (o : One s w w' nc' L') (u : Turn (At s) wr w') : PQ s w nc' L' nr R v w' :=
  ⟨o, (u.block (s + 1) (lt_of_block h.box) (by unfold At; omega)).trans h.box, h.row.keep fun r hr hlt => u.block r hlt (by have := (h.row.ge r hr).1; unfold At; omega)⟩
theorem turn_set1 {s o : Nat} {W : World} {x : Value} : Turn (At (s + 1)) W (W.setCell ⟨s + 1, o, none⟩ x) :=
  ⟨rfl, rfl, rfl, by simp, fun k _ hS => Below.heap_setCell _ _ _ _ (by show k ≠ s + 1; intro e; exact hS e)⟩
/-- The reference's clock stored. -/
theorem PQ.put {nr' : Int} {R' : List (Int × Int)} {v' : Value} (h : PQ s w nc L nr R v wr) (hr : RefRow (s + 2) wr v' R') : PQ s w nc L nr' R' v' ((wr.setCell ⟨s + 1, 0, none⟩ (.int .i64 nr')).setCell ⟨s + 1, 1, none⟩ v') :=
  ⟨h.one.other (turn_set1.trans turn_set1), heap_set (heap_set h.box 0 (.int .i64 nr')) 1 v', (hr.setCell (s + 1) 0 _ (by omega)).setCell (s + 1) 1 _ (by omega)⟩
theorem PQ.facts (h : PQ s w nc L nr R v wr) : wr.cell? ⟨s + 1, 0, none⟩ = some (.int .i64 nr) ∧ wr.cell? ⟨s + 1, 1, none⟩ = some v ∧ (∀ o, wr.frozen? ⟨s + 1, o, none⟩ = false) ∧ s + 1 < wr.heap.size :=
  ⟨by simp [World.cell?, h.box], by simp [World.cell?, h.box], fun o => by simp [World.frozen?, h.box], lt_of_block h.box⟩
theorem PQ.len (h : PQ s w nc L nr R v wr) (hp : R.Perm L) : R.length ≤ 64 := by rw [hp.length_eq]; exact h.one.clock.le
theorem rput_perm {now : Int} (h : R.Perm L) (hl : L.length ≤ 64) (id t : Int) : (rputA now R id t).Perm (putA now L id t) ∧ rsetE R id t = setE L id t := by
  unfold rputA putA rsetE setE
  have e : (has R id = false ∧ 64 ≤ R.length) ↔ (has L id = false ∧ L.length = 64) := by
    rw [has_perm h, h.length_eq]
    exact ⟨fun ⟨a, b⟩ => ⟨a, by omega⟩, fun ⟨a, b⟩ => ⟨a, by omega⟩⟩
  by_cases ht : t < 0
  · rw [if_pos ht, if_pos ht, if_pos ht, if_pos ht]; exact ⟨h, rfl⟩
  · rw [if_neg ht, if_neg ht, if_neg ht, if_neg ht]
    by_cases hx : has L id = false ∧ L.length = 64
    · rw [if_pos hx, if_pos (e.2 hx), if_pos hx, if_pos (e.2 hx)]; exact ⟨h, rfl⟩
    · rw [if_neg hx, if_neg (fun k => hx (e.1 k)), if_neg hx, if_neg (fun k => hx (e.1 k))]; exact ⟨set_perm h _ _, rfl⟩
/-- Blocks behind the two clocks stay. -/
def Kp (s : Nat) (W W' : World) : Prop := ∀ k, s + 2 ≤ k → k < W.heap.size → W'.heap[k]? = W.heap[k]?
theorem Kp.turn {W W' : World} (u : Turn (At s) W W') : Kp s W W' := fun k h1 h2 => u.block k h2 (by unfold At; omega)
theorem Kp.below {W W' : World} (u : Below W.heap.size W W') : Kp s W W' := fun k _ h2 => u.block k h2
/-- A step in a block of its own. -/
def OB (ow : Nat) (x y z : Int) (W : World) : Prop := W.heap[ow]? = some (.cells #[.int .i64 x, .int .i64 y, .int .i64 z] 62 (0, 0))
theorem OB.kp {ow : Nat} {x y z : Int} {W W' : World} (h : OB ow x y z W) (k : Kp s W W') (hs : s + 2 ≤ ow) : OB ow x y z W' := (k ow hs (lt_of_block h)).trans h
theorem OB.facts {ow : Nat} {x y z : Int} {W : World} (h : OB ow x y z W) : W.cell? ⟨ow, 0, none⟩ = some (.int .i64 x) ∧ W.cell? ⟨ow, 1, none⟩ = some (.int .i64 y) ∧ W.cell? ⟨ow, 2, none⟩ = some (.int .i64 z) ∧ ow < W.heap.size := by
  have hl := lt_of_block h
  unfold OB at h
  exact ⟨by simp [World.cell?, h], by simp [World.cell?, h], by simp [World.cell?, h], hl⟩
/-! ### The calls -/
theorem pq_set (id t : Int) (h : PQ s w nc L nr R v wr) :
    Calls Try.prog 25 #[.pointer (some ⟨s, 0, none⟩), .int .i64 id, .int .i64 t] wr fun e W' => e = .returned (.int .i64 (setE L id t)) ∧ PQ s w nc (putA nc L id t) nr R v W' ∧ Kp s wr W' :=
  (set_one id t _ _ h.one rfl rfl).mono fun e W' ⟨he, o, u⟩ => ⟨he, h.turn o u, Kp.turn u⟩
theorem pq_rset (id t : Int) (h : PQ s w nc L nr R v wr) (hl : R.length ≤ 64) (n0 : 0 ≤ nr) (n1 : nr ≤ MT) :
    Calls Try.prog 26 #[.agg #[.int .i64 nr, v], .int .i64 id, .int .i64 t] wr fun e W' => ∃ v', e = .returned (.tuple #[.agg #[.int .i64 nr, v'], .int .i64 (rsetE R id t)]) ∧ PQ s w nc L nr R v W' ∧ RefRow (s + 2) W' v' (rputA nr R id t) ∧ Kp s wr W' :=
  (rset_any (s + 2) nr id t v R wr h.row (by omega) n0 (by unfold MT at n1; omega) h.lt).mono fun e W' ⟨v', he, r, u⟩ => ⟨v', he, h.below u, r, Kp.below u⟩
theorem pq_find (id : Int) (h : PQ s w nc L nr R v wr) (hl : R.length ≤ 64) :
    Calls Try.prog 27 #[.agg #[.int .i64 nr, v], .int .i64 id] wr fun e W' => e = .returned (.tuple #[.int .i64 (findI R id), .bool (has R id)]) ∧ PQ s w nc L nr R v W' ∧ Kp s wr W' :=
  (rfind_any (s + 2) nr id v R wr h.row (by omega)).mono fun e W' ⟨he, u⟩ => ⟨he, h.below u, Kp.below u⟩
theorem pq_rdrop (id : Int) (h : PQ s w nc L nr R v wr) (hl : R.length ≤ 64) :
    Calls Try.prog 28 #[.agg #[.int .i64 nr, v], .int .i64 id] wr fun e W' => ∃ v', e = .returned (.agg #[.int .i64 nr, v']) ∧ PQ s w nc L nr R v W' ∧ RefRow (s + 2) W' v' (dropL R id) ∧ Kp s wr W' :=
  (rdrop_any (s + 2) nr id v R wr h.row (by omega)).mono fun e W' ⟨v', he, r, u⟩ => ⟨v', he, h.below u, r.mono h.lt, Kp.below u⟩
theorem pq_drop (id : Int) (h : PQ s w nc L nr R v wr) :
    Calls Try.prog 29 #[.pointer (some ⟨s, 0, none⟩), .int .i64 id] wr fun e W' => e = .returned (.bool (has L id)) ∧ PQ s w nc (dropL L id) nr R v W' ∧ Kp s wr W' :=
  (drop_one id _ _ h.one rfl rfl).mono fun e W' ⟨he, o, u⟩ => ⟨he, h.turn o u, Kp.turn u⟩
theorem pq_go (t : Int) (h : PQ s w nc L nr R v wr) :
    Calls Try.prog 30 #[.pointer (some ⟨s, 0, none⟩), .int .i64 t] wr fun e W' => ∃ u, e = .returned u ∧ Rung2 s W' u (rungL (stepI nc t) L) ∧ PQ s w (stepI nc t) (restL (stepI nc t) L) nr R v W' ∧ Kp s wr W' :=
  (go_two t _ h.one h.lt rfl).mono fun e W' ⟨u, he, r, o, tt⟩ => ⟨u, he, r, h.turn o tt, Kp.turn tt⟩
theorem pq_rgo {nc' : Int} {L' X : List (Int × Int)} {u : Value} {Y : List Int} (t : Int) (h : PQ s w nc' L' nr R v wr) (hp : R.Perm X) (wf : WF nr X) (hl : R.length ≤ 64) (hu : Rung2 s wr u Y) :
    Calls Try.prog 31 #[.agg #[.int .i64 nr, v], .int .i64 t] wr fun e W' => ∃ v' u' R', e = .returned (.tuple #[.agg #[.int .i64 (stepI nr t), v'], u']) ∧ PQ s w nc' L' nr R v W' ∧ RefRow (s + 2) W' v' R' ∧ R'.Perm (restL (stepI nr t) X) ∧ Rung2 s W' u' (rungL (stepI nr t) X) ∧ Rung2 s W' u Y ∧ Kp s wr W' :=
  (rgo_any (s + 2) nr t v R X wr h.row hp wf (by have := hp.length_eq; omega) h.lt).mono fun e W' ⟨v', u', R', he, r, p, o, b⟩ => ⟨v', u', R', he, h.below b, r, p, ownsRow_base o h.lt, hu.below b, Kp.below b⟩
theorem pq_left (id : Int) (h : PQ s w nc L nr R v wr) :
    Calls Try.prog 32 #[.pointer (some ⟨s, 0, none⟩), .int .i64 id] wr fun e W' => e = .returned (.tuple #[.int .i64 (leftI nc L id), .bool (has L id)]) ∧ PQ s w nc L nr R v W' :=
  (left_one id _ _ h.one rfl rfl).mono fun e W' ⟨he, o, u⟩ => ⟨he, h.turn o u⟩
theorem pq_same {u x : Value} {X : List Int} (h : PQ s w nc L nr R v wr) (hx : RowOf .i64 wr u X) (hy : RowOf .i64 wr x X) (hm : X.length ≤ maxLen) :
    Calls Try.prog 17 #[u, x] wr fun e W' => e = .returned (.bool true) ∧ PQ s w nc L nr R v W' := by
  refine (sameInts_any u x X X wr hx hy hm).mono ?_
  rintro e W' ⟨rfl, n, rfl⟩
  exact ⟨by simp, h.drewN n⟩
theorem pq_rnext {p : Int × Int} (h : PQ s w nc (p :: L) nr R v wr) (hp : R.Perm (p :: L)) :
    Calls Try.prog 33 #[.agg #[.int .i64 nr, v]] wr fun e W' => e = .returned (.tuple #[.agg #[.int .i64 p.2, .int .i64 p.1], .bool true]) ∧ PQ s w nc (p :: L) nr R v W' := by
  refine (rnext_some (s + 2) nr v R wr h.row (by have := h.len hp; omega) (fun e => by rw [e] at hp; simpa using hp.length_eq)).mono ?_
  rintro e W' ⟨m, rfl, hm, hle, u⟩
  obtain rfl := first_perm hp h.one.wf.sorted hm hle
  exact ⟨rfl, h.below u⟩
theorem pq_rnext0 (h : PQ s w nc [] nr [] v wr) :
    Calls Try.prog 33 #[.agg #[.int .i64 nr, v]] wr fun e W' => e = .returned (.tuple #[.agg #[.int .i64 0, .int .i64 0], .bool false]) ∧ PQ s w nc [] nr [] v W' :=
  (rnext_none (s + 2) nr v wr h.row).mono fun e W' ⟨he, u⟩ => ⟨he, h.below u⟩
end
theorem pq_new {w W0 : World} {s : Nat} (hs : s = w.heap.size) (hW : W0 = (w.alloc (.cells (clk 0 (fun _ => (0, 0)) 0) 57)).alloc (.cells #[.int .i64 0, .slice none 0 0] 60)) : PQ s w 0 [] 0 [] (.slice none 0 0) W0 := by
  subst hs
  have h1 := one_alloc (one_new w) (.cells #[.int .i64 0, .slice none 0 0] 60)
  rw [← hW] at h1
  refine ⟨h1, ?_, ⟨rfl, .inl ⟨rfl, rfl⟩⟩⟩
  have := heap_alloc_new (w.alloc (.cells (clk 0 (fun _ => (0, 0)) 0) 57)) (.cells #[.int .i64 0, .slice none 0 0] 60)
  rw [World.size_alloc, ← hW] at this
  exact this
end Go.Proofs.Ytngmnfnnkladbaa.Clock
