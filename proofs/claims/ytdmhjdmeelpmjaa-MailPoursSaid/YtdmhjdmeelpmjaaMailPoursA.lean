/-
  Rows of numbers of the call's own beside queues: what is known of them, and what stays known.
-/
import Derived.Test.YtdmhjdmeelpmjaaMailE
import Derived.Test.YtdmhjdmeelpmjaaOpen
namespace Go.Proofs.Ytdmhjdmeelpmjaa.Mail
open Go.RowKit Go.Conc Go.Shelf
set_option linter.unusedVariables false

/-- A row of the call's own, that starts at the head of block g. -/
structure Row (B g : Nat) (v : Value) (A : List Int) (w : World) : Prop where
  own : w.ownsRow B 3 1 v A.length (A.map (Value.int .i64))
  at_ : ∃ cap, v = .slice (some ⟨g, 0, none⟩) A.length cap
section
variable {B g c room : Nat} {v : Value} {A xs : List Int} {t : Bool} {w w' : World}
theorem Row.block (h : Row B g v A w) : ∃ cur fz, w.heap[g]? = some (.cells cur 3 fz) := by
  obtain ⟨cap, rfl⟩ := h.at_
  rcases h.own.2 with ⟨h0, _⟩ | ⟨g', cap', cur, h1, _, hgb, _⟩
  · cases h0
  · simp only [Value.slice.injEq, Option.some.injEq, Addr.mk.injEq] at h1
    obtain ⟨⟨rfl, _⟩, _⟩ := h1
    exact ⟨_, _, hgb⟩
theorem Row.base (h : Row B g v A w) : B ≤ g := by
  obtain ⟨cap, rfl⟩ := h.at_
  rcases h.own.2 with ⟨h0, _⟩ | ⟨g', cap', cur, h1, hb, hgb, _⟩
  · cases h0
  · simp only [Value.slice.injEq, Option.some.injEq, Addr.mk.injEq] at h1
    obtain ⟨⟨rfl, _⟩, _⟩ := h1
    exact hb
theorem Row.cap {cap : Nat} (h : Row B g (.slice (some ⟨g, 0, none⟩) A.length cap) A w) : A.length ≤ cap := by
  rcases h.own.2 with ⟨h0, _⟩ | ⟨g', cap', cur, h1, _, _, h2, _⟩
  · cases h0
  · simp only [Value.slice.injEq] at h1
    obtain ⟨_, _, rfl⟩ := h1
    exact h2
theorem Row.ownBlock (h : Row B g v A w) : v.ownBlock = some g := by
  obtain ⟨cap, rfl⟩ := h.at_
  rfl
theorem Row.lt (h : Row B g v A w) : g < w.heap.size := by obtain ⟨_, _, hb⟩ := h.block; exact lt_of_block hb
theorem Row.keep (h : Row B g v A w) (hk : w'.heap[g]? = w.heap[g]?) : Row B g v A w' := by
  refine ⟨⟨h.own.1, ?_⟩, h.at_⟩
  rcases h.own.2 with h0 | ⟨g', cap, cur, hv, hg, hgb, rest⟩
  · exact .inl h0
  · refine .inr ⟨g', cap, cur, hv, hg, ?_, rest⟩
    have := h.ownBlock
    rw [hv] at this
    obtain rfl : g' = g := by simpa [Value.ownBlock] using this
    exact hk.trans hgb
theorem Row.below (h : Row B g v A w) (u : Below w.heap.size w w') : Row B g v A w' := h.keep (u.block g h.lt)
theorem Row.drewN (h : Row B g v A w) (n : Nat) : Row B g v A (w.drewN n) := h.keep rfl
/-- A queue is no row. -/
theorem Row.ne (h : Row B g v A w) (q : QAt w c room xs t) : g ≠ c ∧ g ≠ c + 1 := by
  obtain ⟨cur, fz, hb⟩ := h.block
  obtain ⟨s, r, hc⟩ := q.chan
  constructor
  · rintro rfl; rw [hc] at hb; cases hb
  · rintro rfl; rw [q.box] at hb; simp at hb
theorem Row.turn (h : Row B g v A w) (q : QAt w c room xs t) (u : Turn (Of c) w w') : Row B g v A w' :=
  h.keep (u.block g h.lt fun e => by have := h.ne q; rcases e with e | e <;> omega)
theorem QAt.grownRow (q : QAt w c room xs t) (h : Row B g v A w) (hg : w.grownBy w' (some g)) : QAt w' c room xs t := by
  obtain ⟨s, r, hc⟩ := q.chan
  have hn := h.ne q
  have hl := q.lt
  exact ⟨⟨s, r, (hg.block c (by omega) (by simp; omega)).trans hc⟩, (hg.block (c + 1) (by omega) (by simp; omega)).trans q.box, q.fits, q.most⟩
theorem Row.reads (h : Row B g v A w) : RowOf .i64 w v A := RowOf.of_owns h.own
theorem Row.new (w : World) (hB : B ≤ w.heap.size) : Row B w.heap.size (.slice (some ⟨w.heap.size, 0, none⟩) 0 0) [] (w.alloc (.cells #[] 3)) :=
  ⟨⟨by simp, .inr ⟨w.heap.size, 0, #[], rfl, hB, heap_alloc_new w _, by simp, by simp [maxLen], by simp, by simp⟩⟩, 0, rfl⟩
/-- The row behind an append of one number. -/
theorem Row.of_append {w1 : World} {x : Int} {v' : Value} {N : Nat} (h : Row B g v A w) (hN : w.heap.size = N) (hown' : w1.ownsRow B 3 1 v' (A.length + 1) (A.map (Value.int .i64) ++ [.int .i64 x])) (hat : v'.ownBlock = v.ownBlock ∨ v'.ownBlock = some N) :
    ∃ g', Row B g' v' (A ++ [x]) w1 ∧ (g' = g ∨ g' = N) := by
  obtain ⟨g', cap', rfl⟩ := ownsRow_succ hown'
  refine ⟨g', ⟨by simpa using hown', cap', by simp⟩, ?_⟩
  rw [h.ownBlock] at hat
  simpa [Value.ownBlock] using hat
end
/-- What the first loop knows: j of the things were offered to the first queue. -/
def PourRel1 (B N : Nat) (w : World) (xs : List Int) (c1 r1 c2 r2 t : Nat) (v i : Value) (wr : World) : Prop :=
  ∃ j g, j ≤ xs.length ∧ i = .int .i64 (j : Nat) ∧ QAt wr c1 r1 (xs.take (min j r1)) false ∧ QAt wr c2 r2 [] false ∧ Row B g v (xs.take (min j r1)) wr ∧ Row B t (.slice (some ⟨t, 0, none⟩) 0 0) [] wr ∧ g ≠ t ∧ Below B w wr
/-- What the second loop knows: j of the things were offered to the second queue. -/
def PourRel2 (B : Nat) (w : World) (X ys : List Int) (c1 r1 c2 r2 g : Nat) (v0 v i : Value) (wr : World) : Prop :=
  ∃ j t, j ≤ ys.length ∧ i = .int .i64 (j : Nat) ∧ QAt wr c1 r1 X false ∧ QAt wr c2 r2 (ys.take (min j r2)) false ∧ Row B g v0 X wr ∧ Row B t v (ys.take (min j r2)) wr ∧ g ≠ t ∧ Below B w wr
theorem put_take_room {xs : List Int} {r j : Nat} (x : Int) (hj : j < xs.length) (hr : j < r) (hx : x = xs[j]?.getD 0) : putE r (xs.take (min j r)) false = 0 ∧ putL r (xs.take (min j r)) false x = xs.take (min (j + 1) r) ∧ xs.take (min (j + 1) r) = xs.take (min j r) ++ [x] := by
  have hl : (xs.take (min j r)).length < r := by rw [List.length_take]; omega
  have he : xs.take (min (j + 1) r) = xs.take (min j r) ++ [x] := by
    rw [show min (j + 1) r = j + 1 by omega, show min j r = j by omega, List.take_succ_eq_append_getElem hj, hx]
    simp [hj]
  exact ⟨by unfold putE; rw [if_neg (by simp), if_pos hl], by unfold putL; rw [if_neg (by simp), if_pos hl, he], he⟩
theorem put_take_full {xs : List Int} {r j : Nat} (x : Int) (hj : j < xs.length) (hr : ¬ j < r) : putE r (xs.take (min j r)) false = 6 ∧ putL r (xs.take (min j r)) false x = xs.take (min j r) ∧ min (j + 1) r = min j r := by
  have hl : ¬ (xs.take (min j r)).length < r := by rw [List.length_take]; omega
  exact ⟨by unfold putE; rw [if_neg (by simp), if_neg hl], by unfold putL; rw [if_neg (by simp), if_neg hl], by omega⟩
/-! ### What is told at the end: the two queues against the two rows -/
section
variable {B : Nat} {w0 : World} {c1 r1 c2 r2 g t m : Nat} {X Y : List Int} {u v : Value} {w : World}
/-- Ahead of all. -/
structure Told0 (B : Nat) (w0 : World) (c1 r1 c2 r2 g t m : Nat) (X Y : List Int) (u v : Value) (w : World) : Prop where
  q1 : QAt w c1 r1 (X.drop m) false
  q2 : QAt w c2 r2 (Y ++ X.take m) false
  ru : Row B g u X w
  rv : Row B t v Y w
  old : Below B w0 w
  ap : c1 + 2 ≤ c2
  ne : g ≠ t
  base : B ≤ c1
theorem Told0.drewN (h : Told0 B w0 c1 r1 c2 r2 g t m X Y u v w) (n : Nat) : Told0 B w0 c1 r1 c2 r2 g t m X Y u v (w.drewN n) :=
  ⟨h.q1.drewN n, h.q2.drewN n, h.ru.drewN n, h.rv.drewN n, ⟨h.old.os, h.old.tape, h.old.output, h.old.size, h.old.block⟩, h.ap, h.ne, h.base⟩
/-- A row that was told of the first queue. -/
structure Told1 (B : Nat) (w0 : World) (c2 r2 g t m : Nat) (X Y : List Int) (u v : Value) (w : World) : Prop where
  q2 : QAt w c2 r2 (Y ++ X.take m) false
  ru : Row B g u X w
  rv : Row B t v Y w
  old : Below B w0 w
  ne : g ≠ t
  base : B ≤ c2
theorem Told1.drewN (h : Told1 B w0 c2 r2 g t m X Y u v w) (n : Nat) : Told1 B w0 c2 r2 g t m X Y u v (w.drewN n) :=
  ⟨h.q2.drewN n, h.ru.drewN n, h.rv.drewN n, ⟨h.old.os, h.old.tape, h.old.output, h.old.size, h.old.block⟩, h.ne, h.base⟩
def Tell1 (B : Nat) (w0 : World) (c2 r2 g t m : Nat) (X Y : List Int) (u v : Value) (e : Ending) (w' : World) : Prop :=
  ∃ x, e = .returned x ∧ RowOf .i64 w' x (X.drop m) ∧ Told1 B w0 c2 r2 g t m X Y u v w'
theorem tell1 (h : Told0 B w0 c1 r1 c2 r2 g t m X Y u v w) (hl : (X.drop m).length ≤ 2000) :
    Calls Try.prog 20 #[.pointer (some ⟨c1 + 1, 0, none⟩), .int .i64 2000] w (Tell1 B w0 c2 r2 g t m X Y u v) := by
  have hap := h.ap
  refine (taken_any c1 r1 _ _ 2000 (by omega) (by omega) w h.q1).mono ?_
  rintro e w' ⟨x, rfl, hown, q, tu⟩
  rw [List.take_of_length_le hl] at hown
  exact ⟨x, rfl, RowOf.of_owns hown, h.q2.keep tu (by unfold Of; omega) (by unfold Of; omega), h.ru.turn h.q1 tu, h.rv.turn h.q1 tu, h.old.trans (tu.below (Nat.le_of_lt (Nat.lt_of_le_of_lt h.ru.base h.ru.lt)) (by have := h.base; unfold Of; omega)), h.ne, by have := h.base; omega⟩
/-- What stands in the first row from m on. -/
theorem Row.tail (h : Row B g u X w) (hm : m ≤ X.length) {a : Option Addr} {cap : Nat} (ha : X.drop m ≠ [] → a = some ⟨g, m, none⟩) : RowOf .i64 w (.slice a (X.length - m) cap) (X.drop m) := by
  refine ⟨a, cap, by rw [List.length_drop], fun hne => ⟨g, m, ha hne, fun i hi => ?_⟩⟩
  obtain ⟨c0, rfl⟩ := h.at_
  rw [List.length_drop] at hi
  have := World.ownsRow.cells h.own (g := g) rfl (m + i) (.int .i64 ((X.drop m)[i]?.getD 0)) (by simp [show m + i < X.length by omega])
  have e : (Addr.mk g 0 none).add (m + i) = ⟨g, m + i, none⟩ := by unfold Addr.add; split <;> simp_all
  rwa [e] at this
theorem RowOf.empty {A : List Int} {a : Option Addr} {cap : Nat} (h : A = []) : RowOf .i64 w (.slice a 0 cap) A := by
  subst h
  exact ⟨a, cap, rfl, fun h => absurd rfl h⟩
theorem Row.front (h : Row B g u X w) (hm : m ≤ X.length) {cap : Nat} : RowOf .i64 w (.slice (some ⟨g, 0, none⟩) m cap) (X.take m) := by
  refine ⟨_, cap, by rw [List.length_take, Nat.min_eq_left hm], fun hne => ⟨g, 0, rfl, fun i hi => ?_⟩⟩
  obtain ⟨c0, rfl⟩ := h.at_
  rw [List.length_take] at hi
  have := World.ownsRow.cells h.own (g := g) rfl i (.int .i64 ((X.take m)[i]?.getD 0)) (by simp [show i < X.length by omega, show i < m by omega])
  have e : (Addr.mk g 0 none).add i = ⟨g, 0 + i, none⟩ := by unfold Addr.add; split <;> simp_all
  rwa [e] at this
theorem tell2 {x y : Value} {A : List Int} (h : Told1 B w0 c2 r2 g t m X Y u v w) (hx : RowOf .i64 w x A) (hy : RowOf .i64 w y A) (hA : A.length ≤ 2000) :
    Calls Try.prog 19 #[x, y] w fun e w' => e = .returned (.bool true) ∧ Told1 B w0 c2 r2 g t m X Y u v w' :=
  (sameInts_any x y A A w hx hy (by unfold maxLen; omega)).mono fun e w' ⟨he, n, hw⟩ => ⟨he.trans (ret_bool (by simp)), by rw [hw]; exact h.drewN n⟩
/-- A row that was told of the second queue. -/
structure Told3 (B : Nat) (w0 : World) (g t m : Nat) (X Y : List Int) (u v x : Value) (w : World) : Prop where
  rx : ∃ bx, t < bx ∧ w.ownsRow bx 3 1 x (Y ++ X.take m).length ((Y ++ X.take m).map (Value.int .i64))
  ru : Row B g u X w
  rv : Row B t v Y w
  old : Below B w0 w
def Tell3 (B : Nat) (w0 : World) (g t m : Nat) (X Y : List Int) (u v : Value) (e : Ending) (w' : World) : Prop :=
  ∃ x, e = .returned x ∧ Told3 B w0 g t m X Y u v x w'
theorem tell3 (h : Told1 B w0 c2 r2 g t m X Y u v w) (hl : (Y ++ X.take m).length ≤ 2000) :
    Calls Try.prog 20 #[.pointer (some ⟨c2 + 1, 0, none⟩), .int .i64 2000] w (Tell3 B w0 g t m X Y u v) := by
  refine (taken_any c2 r2 _ _ 2000 (by omega) (by omega) w h.q2).mono ?_
  rintro e w' ⟨x, rfl, hown, q, tu⟩
  rw [List.take_of_length_le hl] at hown
  exact ⟨x, rfl, ⟨_, h.rv.lt, hown⟩, h.ru.turn h.q2 tu, h.rv.turn h.q2 tu, h.old.trans (tu.below (Nat.le_of_lt (Nat.lt_of_le_of_lt h.ru.base h.ru.lt)) (by have := h.base; unfold Of; omega))⟩
/-- Behind the append. -/
structure Told4 (B : Nat) (w0 : World) (m : Nat) (X Y : List Int) (x y : Value) (w : World) : Prop where
  rx : RowOf .i64 w x (Y ++ X.take m)
  ry : RowOf .i64 w y (Y ++ X.take m)
  old : Below B w0 w
theorem tell4 {x y : Value} (h : Told4 B w0 m X Y x y w) (hl : (Y ++ X.take m).length ≤ 2000) :
    Calls Try.prog 19 #[x, y] w fun e w' => e = .returned (.bool true) ∧ Below B w0 w' :=
  (sameInts_any x y _ _ w h.rx h.ry (by unfold maxLen; omega)).mono fun e w' ⟨he, n, hw⟩ => ⟨he.trans (ret_bool (by simp)), by rw [hw]; exact ⟨h.old.os, h.old.tape, h.old.output, h.old.size, h.old.block⟩⟩
/-- The append, at an operation that is wanted. -/
theorem step_append {ops : Array Oper} {o : Oper} {a : Act} {K : Act → World → Prop} {Q : Exit → Act → World → Prop} {E : Prop} {x : Value} {cap : Nat} (hw : Region.wanted o (yielded ops a.tmps) = true) (s z : Operand)
    (ho : o.op = .call { callee := .builtin .append, args := #[s, z], argTypes := #[27, 27] }) (hs : a.eval s = v) (hz : a.eval z = .slice (some ⟨g, 0, none⟩) m cap)
    (h : Told3 B w0 g t m X Y u v x w) (hm : m ≤ X.length) (hl : Y.length + m ≤ 2000)
    (hK : ∀ y w', Told4 B w0 m X Y x y w' → K (a.put o.dst y) w') : if Region.wanted o (yielded ops a.tmps) = true then Oper.wp Try.prog o a w K Q else E := by
  obtain ⟨i0, hi, hz0, hz1, hz2⟩ := info_parts info_int
  have hBw : B ≤ w.heap.size := Nat.le_of_lt (Nat.lt_of_le_of_lt h.ru.base h.ru.lt)
  rw [if_pos hw]
  have hlen : (X.take m).length = m := by rw [List.length_take, Nat.min_eq_left hm]
  have hnews : ∀ j u', ((X.take m).map (Value.int .i64))[j]? = some u' → w.cell? ((⟨g, 0, none⟩ : Addr).add j) = some u' := by
    intro j u' hu
    obtain ⟨c0, rfl⟩ := h.ru.at_
    have hj : j < m := by
      have := (List.getElem?_eq_some_iff.1 hu).1
      simp at this
      omega
    refine World.ownsRow.cells h.ru.own (g := g) rfl j u' ?_
    rw [← hu]
    simp [hj]
  obtain ⟨y, w', hrun, h2, h3, _⟩ := run_append_own_at (P := Try.prog) w B 27 o.type 3 i0 (.int .i64 0) 1 8 Try.underlying27 hi hz0 hz1 hz2 rfl (by decide) v _ _ h.rv.own ⟨g, 0, none⟩ m cap ((X.take m).map (Value.int .i64)) (by simp; omega) hnews (fun u' hu => by obtain ⟨n, _, rfl⟩ := List.mem_map.1 hu; rfl) (by unfold maxLen; omega) (by omega) hBw
  unfold Oper.wp execOp
  simp only [ho, resolve, invoke, builtin, Sem.run_bind, Sem.run_pure, Result.andThen_ok, List.map_toArray, List.map_cons, List.map_nil, hs, hz, hrun]
  refine hK _ _ ⟨?_, ?_, ?_⟩
  · obtain ⟨bx, hbx, hown⟩ := h.rx
    refine RowOf.of_owns (hown.kept h3 ?_)
    rw [h.rv.ownBlock]
    rcases hown.2 with ⟨rfl, _⟩ | ⟨g', cap, cur, rfl, hg, hgb, _⟩
    · exact .inl rfl
    · refine .inr fun e => ?_
      have : g' = t := by simpa [Value.ownBlock] using e
      omega
  · refine RowOf.of_owns (e := 3) (base := B) ?_
    rw [List.length_append, hlen, List.map_append]
    exact h2
  · exact h.old.grown h3 hBw fun k e => by rw [h.rv.ownBlock] at e; cases e; exact h.rv.base
end
end Go.Proofs.Ytdmhjdmeelpmjaa.Mail
