/-
  The statements' own example of orders.
-/
import Derived.Test.YtjeknociobbhpaaDoorOrdALB
namespace Go.Proofs.YtjeknociobbhpaaDoor.Ord
open Go.RowKit Base
set_option linter.unusedVariables false
set_option linter.unusedSimpArgs false

theorem own_lit (W : World) (A : Array Value) (L : List Int) (hA : A.toList = L.map (Value.int .u8)) (hm : A.size ≤ maxLen) (n : Nat) (hn : n = A.size) : OwnBytes W.heap.size (W.alloc (.cells A 5)) (.slice (some ⟨W.heap.size, 0, none⟩) n n) L := by
  subst hn
  have hl : L.length = A.size := by
    have := congrArg List.length hA
    simpa using this.symm
  unfold OwnBytes
  rw [hl]
  exact ⟨by simp [hl], .inr ⟨W.heap.size, A.size, A, rfl, Nat.le_refl _, heap_alloc_new W _, Nat.le_refl _, hm, by simp, by rw [← hA, Nat.mul_one]; exact List.take_of_length_le (by simp)⟩⟩
def al1 : Or := ⟨17, 0, 0, false, [], []⟩
def al2 : Or := ⟨29, 0, 48, false, [], []⟩
def al3 : Or := ⟨0, 0, 0, false, [], [193]⟩
def al4 : Or := ⟨17, 80, 0, false, [], []⟩
theorem al_p1 : parseL [17, 64, 64, 29, 240, 193] 7 0 = ([al1, al2, al3], 6, none) := by with_unfolding_all rfl
theorem al_p2 : (parseL [193, 17, 64] 4 0).2 = (1, some .short) := by with_unfolding_all rfl
theorem al_p3 : (parseL [1] 2 0).2 = (0, some .none) := by with_unfolding_all rfl
theorem al_w1 : wErr [al1, al2, al3] 80 = 0 := by decide +kernel
theorem al_w2 : wBytes [al1, al2, al3] 80 = [17, 64, 64, 29, 240, 193] := by decide +kernel
theorem al_w3 : wErr [al4] 80 = 32 := by decide +kernel
theorem al_t : strOfNums ([83, 70, 32] ++ hexL [48]) = ⟨#[83, 70, 32, 51, 48]⟩ := by decide +kernel
theorem ok4_of {o : Or} (h : o.pairs.length ≤ 1 ∧ o.data.length ≤ 1 ∧ 0 ≤ o.addr ∧ o.addr ≤ 100 ∧ 0 ≤ o.byte ∧ o.byte ≤ 255) : o.Ok4 := by
  obtain ⟨h1, h2, h3, h4, h5, h6⟩ := h
  exact ⟨by omega, by omega, by omega, by omega, h5, h6⟩
theorem al_ok4 : ∀ o ∈ [al1, al2, al3], o.Ok4 := by
  intro o ho
  rcases List.mem_cons.1 ho with rfl | ho
  · exact ok4_of (by decide)
  rcases List.mem_cons.1 ho with rfl | ho
  · exact ok4_of (by decide)
  · obtain rfl : o = al3 := by simpa using ho
    exact ok4_of (by decide)
/-- What the example holds. -/
structure AQ (w : World) (g : Nat) (p1 d1 p2 d2 p3 d3 vb : Value) (W : World) : Prop where
  old : Below w.heap.size w W
  o1 : OC g 0 al1 p1 d1 W
  o2 : OC g 6 al2 p2 d2 W
  o3 : OC g 12 al3 p3 d3 W
  q1 : PrAt W p1 []
  r1 : RowOf .u8 W d1 []
  q2 : PrAt W p2 []
  r2 : RowOf .u8 W d2 []
  r3 : RowOf .u8 W d3 [193]
  rb : RowOf .u8 W vb [17, 64, 64, 29, 240, 193]
theorem AQ.below {w W W' : World} {g : Nat} {p1 d1 p2 d2 p3 d3 vb : Value} (h : AQ w g p1 d1 p2 d2 p3 d3 vb W) (t : Below W.heap.size W W') : AQ w g p1 d1 p2 d2 p3 d3 vb W' :=
  ⟨h.old.trans (t.mono h.old.size), h.o1.below t, h.o2.below t, h.o3.below t, h.q1.below t, h.r1.below t, h.q2.below t, h.r2.below t, h.r3.below t, h.rb.below t⟩
theorem AQ.s {w W : World} {g : Nat} {a1 a2 a3 a4 : Option Addr} {c1 c2 c3 c4 : Nat} {p3 d3 vb : Value} (h : AQ w g (.slice a1 0 c1) (.slice a3 0 c3) (.slice a2 0 c2) (.slice a4 0 c4) p3 d3 vb W) : W.cell? ⟨g, 0, none⟩ = some (.int .u8 17) ∧ W.cell? ⟨g, 1, none⟩ = some (.int .i64 0) ∧ W.cell? ⟨g, 2, none⟩ = some (.int .u8 0) ∧ W.cell? ⟨g, 3, none⟩ = some (.bool false) ∧ W.cell? ⟨g, 4, none⟩ = some (.slice a1 0 c1) ∧ W.cell? ⟨g, 5, none⟩ = some (.slice a3 0 c3) ∧ W.cell? ⟨g, 6, none⟩ = some (.int .u8 29) ∧ W.cell? ⟨g, 7, none⟩ = some (.int .i64 0) ∧ W.cell? ⟨g, 8, none⟩ = some (.int .u8 48) ∧ W.cell? ⟨g, 9, none⟩ = some (.bool false) ∧ W.cell? ⟨g, 10, none⟩ = some (.slice a2 0 c2) ∧ W.cell? ⟨g, 11, none⟩ = some (.slice a4 0 c4) ∧ W.cell? ⟨g, 17, none⟩ = some d3 ∧ (convert 22 9 d3).run Tryd.prog W = .ok (.string ⟨#[193]⟩) W ∧ (convert 22 9 vb).run Tryd.prog W = .ok (.string ⟨#[17, 64, 64, 29, 240, 193]⟩) W ∧ AQ w g (.slice a1 0 c1) (.slice a3 0 c3) (.slice a2 0 c2) (.slice a4 0 c4) p3 d3 vb W := by
  obtain ⟨x0, x1, x2, x3, x4, x5⟩ := h.o1
  obtain ⟨y0, y1, y2, y3, y4, y5⟩ := h.o2
  have s1 := row_str h.r3
  have s2 := row_str h.rb
  rw [show strOfNums [193] = ⟨#[193]⟩ by decide +kernel] at s1
  rw [show strOfNums [17, 64, 64, 29, 240, 193] = ⟨#[17, 64, 64, 29, 240, 193]⟩ by decide +kernel] at s2
  exact ⟨x0, x1, x2, x3, x4, x5, y0, y1, y2, y3, y4, y5, h.o3.2.2.2.2.2, s1, s2, h⟩
theorem al_same1 {w W : World} {g : Nat} {p1 d1 p2 d2 p3 d3 vb : Value} (h : AQ w g p1 d1 p2 d2 p3 d3 vb W) : Calls Tryd.prog 20 #[.agg #[.int .u8 17, .int .i64 0, .int .u8 0, .bool false, p1, d1], .agg #[.int .u8 17, .int .i64 0, .int .u8 0, .bool false, p1, d1]] W fun e w' => e = .returned (.bool true) ∧ Below W.heap.size W w' :=
  same_any (w := W) (a := al1) (b := al1) ⟨_, _, rfl, h.q1, h.r1⟩ ⟨_, _, rfl, h.q1, h.r1⟩ ⟨by decide, by simp [al1]⟩ ⟨by decide, by simp [al1]⟩
theorem al_same2 {w W : World} {g : Nat} {p1 d1 p2 d2 p3 d3 vb : Value} (h : AQ w g p1 d1 p2 d2 p3 d3 vb W) : Calls Tryd.prog 20 #[.agg #[.int .u8 17, .int .i64 0, .int .u8 0, .bool false, p1, d1], .agg #[.int .u8 29, .int .i64 0, .int .u8 48, .bool false, p2, d2]] W fun e w' => e = .returned (.bool false) ∧ Below W.heap.size W w' :=
  same_any (w := W) (a := al1) (b := al2) ⟨_, _, rfl, h.q1, h.r1⟩ ⟨_, _, rfl, h.q2, h.r2⟩ ⟨by decide, by simp [al1]⟩ ⟨by decide, by simp [al2]⟩
theorem map3 {P : List OrdP} {a b c : Or} (h : P.map (·.1) = [a, b, c]) : ∃ p1 d1 p2 d2 p3 d3, P = [(a, p1, d1), (b, p2, d2), (c, p3, d3)] := by
  match P, h with
  | [(x, p1, d1), (y, p2, d2), (z, p3, d3)], h =>
    simp at h
    obtain ⟨rfl, rfl, rfl⟩ := h
    exact ⟨p1, d1, p2, d2, p3, d3, rfl⟩
theorem row_al4 (W : World) : OrdsAt2 (W.alloc (.cells #[.int .u8 17, .int .i64 80, .int .u8 0, .bool false, .slice none 0 0, .slice none 0 0] 35)) (.slice (some ⟨W.heap.size, 0, none⟩) 1 1) [al4] := by
  have h := heap_alloc_new W (.cells #[.int .u8 17, .int .i64 80, .int .u8 0, .bool false, .slice none 0 0, .slice none 0 0] 35)
  refine ⟨_, 1, rfl, fun _ => ⟨W.heap.size, 0, rfl, lt_of_block h, fun i o ho => ?_⟩⟩
  match i, ho with
  | 0, ho =>
    obtain rfl : al4 = o := by simpa using ho
    obtain ⟨c0, c1, c2, c3, c4, c5, _⟩ := cells6 h
    exact ⟨.slice none 0 0, .slice none 0 0, ⟨c0, c1, c2, c3, c4, c5⟩, ⟨none, 0, rfl, fun h => absurd rfl h⟩, RowOf.nil _ _, fun n c e => by injection e with _ _ e; exact e.symm⟩
set_option maxRecDepth 100000 in
set_option maxHeartbeats 8000000 in
theorem ord_alive (w : World) : Calls Tryd.prog 7 #[] w fun e w' => e = .returned (.bool true) ∧ Below w.heap.size w w' := by
  have hzo := (zero_of_info info_ord).1
  go_enter Tryd.func7, Tryd.ntmps7
  go_wp2_with fail
  have ho1 := own_lit w #[.int .u8 17, .int .u8 64, .int .u8 64, .int .u8 29, .int .u8 240, .int .u8 193] [17, 64, 64, 29, 240, 193] rfl (by simp [maxLen]) 6 rfl
  have hc1 := parse_any _ [17, 64, 64, 29, 240, 193] _ ho1.cut (by simp) (by simp)
  rw [show ([17, 64, 64, 29, 240, 193] : List Int).length + 1 = 7 from rfl, al_p1] at hc1
  refine hc1.mono ?_
  rintro e W1 ⟨u, P, rfl, hP, hPm, hb1⟩
  obtain ⟨p1, d1, p2, d2, p3, d3, rfl⟩ := map3 hPm
  have hB1 : Below w.heap.size w W1 := (below_alloc w _).trans (hb1.mono (by rw [World.size_alloc]; omega))
  have HP1 := Lib.hid hP
  have HB1 := Lib.hid hB1
  clear ho1 hc1 hPm hb1 hP hB1
  go_wp2_with fail
  have ho2 := own_lit W1 #[.int .u8 193, .int .u8 17, .int .u8 64] [193, 17, 64] rfl (by simp [maxLen]) 3 rfl
  have hc2 := parse_any _ [193, 17, 64] _ ho2.cut (by simp) (by simp)
  refine hc2.mono ?_
  rintro e W2 ⟨u2, P2, he, _, _, hb2⟩
  rw [show ([193, 17, 64] : List Int).length + 1 = 4 from rfl, al_p2] at he
  have he : e = .returned (.tuple #[u2, .int .i64 1, .int .i64 20]) := he
  subst he
  have HB12 := Lib.hid ((below_alloc W1 _).trans (hb2.mono (by rw [World.size_alloc]; omega)))
  have HP2 := Lib.hid (HP1.out.below HB12.out)
  have HB2 := Lib.hid (HB1.out.trans (HB12.out.mono HB1.out.size))
  clear ho2 hc2 hb2
  go_wp2_with fail
  have ho3 := own_lit W2 #[.int .u8 1] [1] rfl (by simp [maxLen]) 1 rfl
  have hc3 := parse_any _ [1] _ ho3.cut (by simp) (by simp)
  refine hc3.mono ?_
  rintro e W3 ⟨u3, P3, he, _, _, hb3⟩
  rw [show ([1] : List Int).length + 1 = 2 from rfl, al_p3] at he
  have he : e = .returned (.tuple #[u3, .int .i64 0, .int .i64 31]) := he
  subst he
  have HB23 := Lib.hid ((below_alloc W2 _).trans (hb3.mono (by rw [World.size_alloc]; omega)))
  have HP3 := Lib.hid (HP2.out.below HB23.out)
  have HB3 := Lib.hid (HB2.out.trans (HB23.out.mono HB2.out.size))
  clear ho3 hc3 hb3 HP1 HP2 HB12 HB23
  obtain ⟨g, cap, rfl⟩ : ∃ g cap, u = .slice (some ⟨g, 0, none⟩) 3 cap := by
    rcases HP3.out.row.2 with ⟨_, h0⟩ | ⟨g, cap, cur, e, _⟩
    · simp at h0
    · exact ⟨g, cap, e⟩
  go_wp2_with fail
  have hw1 := owrites_any 80 HP3.out.at2 (L := [al1, al2, al3]) al_ok4 (by simp) (by rw [al_w2]; simp)
  refine hw1.mono ?_
  rintro e W4 ⟨vb, he, hvb, _, hb4⟩
  have hvb := hvb al_w1
  rw [al_w1] at he
  rw [al_w2] at hvb
  subst he
  have HP4 := Lib.hid (HP3.out.below hb4)
  have HB4 := Lib.hid (HB3.out.trans (hb4.mono HB3.out.size))
  have HV4 := Lib.hid hvb
  clear hw1 hvb hb4
  have hrow : W4.ownsRow w.heap.size 35 6 (.slice (some ⟨g, 0, none⟩) 3 cap) 3 (ordC [(al1, p1, d1), (al2, p2, d2), (al3, p3, d3)]) := ownsRow_base HP4.out.row (by have := HB1.out.size; rw [World.size_alloc] at *; omega)
  have HAQ : Hid (AQ w g p1 d1 p2 d2 p3 d3 vb W4) := Lib.hid (by
    obtain ⟨e1, e2⟩ := HP4.out.own (al1, p1, d1) (by simp)
    obtain ⟨e3, e4⟩ := HP4.out.own (al2, p2, d2) (by simp)
    obtain ⟨e5, e6⟩ := HP4.out.own (al3, p3, d3) (by simp)
    exact ⟨HB4.out, ⟨own_cell hrow 0 _ rfl, own_cell hrow 1 _ rfl, own_cell hrow 2 _ rfl, own_cell hrow 3 _ rfl, own_cell hrow 4 _ rfl, own_cell hrow 5 _ rfl⟩, ⟨own_cell hrow 6 _ rfl, own_cell hrow 7 _ rfl, own_cell hrow 8 _ rfl, own_cell hrow 9 _ rfl, own_cell hrow 10 _ rfl, own_cell hrow 11 _ rfl⟩, ⟨own_cell hrow 12 _ rfl, own_cell hrow 13 _ rfl, own_cell hrow 14 _ rfl, own_cell hrow 15 _ rfl, own_cell hrow 16 _ rfl, own_cell hrow 17 _ rfl⟩, e1.at, e2.row, e3.at, e4.row, e6.row, HV4.out.row⟩)
  clear hrow HP3 HP4 HV4 HB1 HB2 HB3 HB4
  go_wp2_with fail
  have hw2 := owrites_any 80 (row_al4 W4) (fun o ho => by obtain rfl : o = al4 := by simpa using ho
                                                          exact ok4_of (by decide)) (by simp) (by decide)
  refine hw2.mono ?_
  rintro e W5 ⟨vc, he, _, hvc, hb5⟩
  rw [al_w3] at he hvc
  obtain rfl := hvc (by decide)
  subst he
  have HAQ5 := Lib.hid (HAQ.out.below ((below_alloc W4 _).trans (hb5.mono (by rw [World.size_alloc]; omega))))
  clear hw2 hb5 hvc HAQ
  obtain ⟨a1, c1, rfl⟩ := HAQ5.out.q1.form
  obtain ⟨a2, c2, rfl⟩ := HAQ5.out.q2.form
  obtain ⟨a3, c3, rfl, _⟩ := HAQ5.out.r1
  obtain ⟨a4, c4, rfl, _⟩ := HAQ5.out.r2
  have HAQ5d := Lib.hid (HAQ5.out.below (Below.refl _ _).drew)
  have ht := text_sf (w := W5.drew) 48 (by omega) (by omega) a2 a4 c2 c4
  rw [al_t] at ht
  have HTX := Lib.hid ht
  clear ht
  go_upto_region 8 with fail
  change Code.wp _ (Code.region 8 al8 true) _ _ _
  refine wp_region_held_drew (S := (fun W => W.cell? ⟨g, 0, none⟩ = some (.int .u8 17) ∧ W.cell? ⟨g, 1, none⟩ = some (.int .i64 0) ∧ W.cell? ⟨g, 2, none⟩ = some (.int .u8 0) ∧ W.cell? ⟨g, 3, none⟩ = some (.bool false) ∧ W.cell? ⟨g, 4, none⟩ = some (.slice a1 0 c1) ∧ W.cell? ⟨g, 5, none⟩ = some (.slice a3 0 c3) ∧ W.cell? ⟨g, 6, none⟩ = some (.int .u8 29) ∧ W.cell? ⟨g, 7, none⟩ = some (.int .i64 0) ∧ W.cell? ⟨g, 8, none⟩ = some (.int .u8 48) ∧ W.cell? ⟨g, 9, none⟩ = some (.bool false) ∧ W.cell? ⟨g, 10, none⟩ = some (.slice a2 0 c2) ∧ W.cell? ⟨g, 11, none⟩ = some (.slice a4 0 c4) ∧ W.cell? ⟨g, 17, none⟩ = some d3 ∧ (convert 22 9 d3).run Tryd.prog W = .ok (.string ⟨#[193]⟩) W ∧ (convert 22 9 vb).run Tryd.prog W = .ok (.string ⟨#[17, 64, 64, 29, 240, 193]⟩) W ∧ AQ w g (.slice a1 0 c1) (.slice a3 0 c3) (.slice a2 0 c2) (.slice a4 0 c4) p3 d3 vb W)) (by kernel_rfl) (AQ.s HAQ5d.out) (fun hHeld => ?_)
  change wpAnyH _ .any al8 _ _ 87 al8_l0 _ _
  refine wpAnyH_take (i := 0) (oi := { dst := some 46, op := Op.move (Operand.tmp 2), type := 3, pos := "law.go:21", after := #[], guard := none }) (v := ?_) (listed := al8_l0) al8_g0 al8_nosel al8_f0 al8_r0 (fun _ _ _ h => h) (Or.inl ⟨by rfl, ?_⟩) (by assumption) ?_
  rotate_left
  focus (intro w hSw; (try dsimp only at hSw); go_simp; try (with_reducible rfl))
  try simp only [Act.put, List.setIfInBounds_toArray, List.set_cons_zero, List.set_cons_succ]
  refine wpAnyH_take (i := 1) (oi := { dst := some 47, op := Op.binOp BinOp.eql 3 (Operand.tmp 46) (Operand.const (Value.int IntKind.i64 6)) 3, type := 4, pos := "law.go:21", after := #[{ on := 0, ground := Ground.data }], guard := none }) (v := ?_) (listed := al8_l1) al8_g1 al8_nosel al8_f1 al8_r1 (fun _ _ _ h => h) (Or.inl ⟨by rfl, ?_⟩) (by assumption) ?_
  rotate_left
  focus (intro w hSw; (try dsimp only at hSw); go_simp; try (with_reducible rfl))
  try simp only [Act.put, List.setIfInBounds_toArray, List.set_cons_zero, List.set_cons_succ]
  refine wpAnyH_take (i := 2) (oi := { dst := some 48, op := Op.move (Operand.tmp 47), type := 4, pos := "law.go:21", after := #[{ on := 1, ground := Ground.data }], guard := none }) (v := ?_) (listed := al8_l2) al8_g2 al8_nosel al8_f2 al8_r2 (fun _ _ _ h => h) (Or.inl ⟨by rfl, ?_⟩) (by assumption) ?_
  rotate_left
  focus (intro w hSw; (try dsimp only at hSw); go_simp; try (with_reducible rfl))
  try simp only [Act.put, List.setIfInBounds_toArray, List.set_cons_zero, List.set_cons_succ]
  refine wpAnyH_take (i := 3) (oi := { dst := some 49, op := Op.move (Operand.tmp 3), type := 26, pos := "law.go:21", after := #[{ on := 2, ground := Ground.guard }], guard := some (2, true) }) (v := ?_) (listed := al8_l3) al8_g3 al8_nosel al8_f3 al8_r3 (fun _ _ _ h => h) (Or.inl ⟨by rfl, ?_⟩) (by assumption) ?_
  rotate_left
  focus (intro w hSw; (try dsimp only at hSw); go_simp; try (with_reducible rfl))
  try simp only [Act.put, List.setIfInBounds_toArray, List.set_cons_zero, List.set_cons_succ]
  refine wpAnyH_take (i := 4) (oi := { dst := some 50, op := Op.binOp BinOp.eql 26 (Operand.tmp 49) (Operand.const (Value.int IntKind.i64 0)) 26, type := 4, pos := "law.go:21", after := #[{ on := 3, ground := Ground.data }, { on := 2, ground := Ground.guard }], guard := some (2, true) }) (v := ?_) (listed := al8_l4) al8_g4 al8_nosel al8_f4 al8_r4 (fun _ _ _ h => h) (Or.inl ⟨by rfl, ?_⟩) (by assumption) ?_
  rotate_left
  focus (intro w hSw; (try dsimp only at hSw); go_simp; try (with_reducible rfl))
  try simp only [Act.put, List.setIfInBounds_toArray, List.set_cons_zero, List.set_cons_succ]
  refine wpAnyH_take (i := 5) (oi := { dst := some 51, op := Op.pick (Operand.tmp 48) (Operand.tmp 50) (Operand.const (Value.bool false)), type := 4, pos := "law.go:21", after := #[{ on := 2, ground := Ground.data }, { on := 4, ground := Ground.data }], guard := none }) (v := ?_) (listed := al8_l5) al8_g5 al8_nosel al8_f5 al8_r5 (fun _ _ _ h => h) (Or.inl ⟨by rfl, ?_⟩) (by assumption) ?_
  rotate_left
  focus (intro w hSw; (try dsimp only at hSw); go_simp; try (with_reducible rfl))
  try simp only [Act.put, List.setIfInBounds_toArray, List.set_cons_zero, List.set_cons_succ]
  refine wpAnyH_take (i := 6) (oi := { dst := some 52, op := Op.move (Operand.tmp 51), type := 4, pos := "law.go:21", after := #[{ on := 5, ground := Ground.data }, { on := 2, ground := Ground.chain }], guard := none }) (v := ?_) (listed := al8_l6) al8_g6 al8_nosel al8_f6 al8_r6 (fun _ _ _ h => h) (Or.inl ⟨by rfl, ?_⟩) (by assumption) ?_
  rotate_left
  focus (intro w hSw; (try dsimp only at hSw); go_simp; try (with_reducible rfl))
  try simp only [Act.put, List.setIfInBounds_toArray, List.set_cons_zero, List.set_cons_succ]
  refine wpAnyH_take (i := 7) (oi := { dst := some 53, op := Op.move (Operand.tmp 1), type := 25, pos := "law.go:21", after := #[{ on := 6, ground := Ground.guard }], guard := some (6, true) }) (v := ?_) (listed := al8_l7) al8_g7 al8_nosel al8_f7 al8_r7 (fun _ _ _ h => h) (Or.inl ⟨by rfl, ?_⟩) (by assumption) ?_
  rotate_left
  focus (intro w hSw; (try dsimp only at hSw); go_simp; try (with_reducible rfl))
  try simp only [Act.put, List.setIfInBounds_toArray, List.set_cons_zero, List.set_cons_succ]
  refine wpAnyH_take (i := 8) (oi := { dst := some 54, op := Op.indexAddr 25 (Operand.tmp 53) (Operand.const (Value.int IntKind.i64 0)), type := 0, pos := "law.go:21", after := #[{ on := 7, ground := Ground.data }, { on := 6, ground := Ground.guard }], guard := some (6, true) }) (v := ?_) (listed := al8_l8) al8_g8 al8_nosel al8_f8 al8_r8 (fun _ _ _ h => h) (Or.inl ⟨by rfl, ?_⟩) (by assumption) ?_
  rotate_left
  focus (intro w hSw; (try dsimp only at hSw); go_simp; try (with_reducible rfl))
  try simp only [Act.put, List.setIfInBounds_toArray, List.set_cons_zero, List.set_cons_succ]
  refine wpAnyH_take (i := 9) (oi := { dst := some 55, op := Op.fieldAddr 35 (Operand.tmp 54) 0, type := 0, pos := "law.go:21", after := #[{ on := 8, ground := Ground.data }, { on := 6, ground := Ground.guard }], guard := some (6, true) }) (v := ?_) (listed := al8_l9) al8_g9 al8_nosel al8_f9 al8_r9 (fun _ _ _ h => h) (Or.inl ⟨by rfl, ?_⟩) (by assumption) ?_
  rotate_left
  focus (intro w hSw; (try dsimp only at hSw); go_simp; try (with_reducible rfl))
  try simp only [Act.put, List.setIfInBounds_toArray, List.set_cons_zero, List.set_cons_succ]
  refine wpAnyH_take (i := 10) (oi := { dst := some 56, op := Op.load 5 (Operand.tmp 55), type := 5, pos := "law.go:21", after := #[{ on := 9, ground := Ground.data }, { on := 6, ground := Ground.guard }], guard := some (6, true) }) (v := ?_) (listed := al8_l10) al8_g10 al8_nosel al8_f10 al8_r10 (fun _ _ _ h => h) (Or.inl ⟨by rfl, ?_⟩) (by assumption) ?_
  rotate_left
  focus (intro w hSw; (try dsimp only at hSw); go_simp; try (with_reducible rfl))
  try simp only [Act.put, List.setIfInBounds_toArray, List.set_cons_zero, List.set_cons_succ]
  refine wpAnyH_take (i := 11) (oi := { dst := some 57, op := Op.binOp BinOp.eql 5 (Operand.tmp 56) (Operand.const (Value.int IntKind.u8 17)) 5, type := 4, pos := "law.go:21", after := #[{ on := 10, ground := Ground.data }, { on := 6, ground := Ground.guard }], guard := some (6, true) }) (v := ?_) (listed := al8_l11) al8_g11 al8_nosel al8_f11 al8_r11 (fun _ _ _ h => h) (Or.inl ⟨by rfl, ?_⟩) (by assumption) ?_
  rotate_left
  focus (intro w hSw; (try dsimp only at hSw); go_simp; try (with_reducible rfl))
  try simp only [Act.put, List.setIfInBounds_toArray, List.set_cons_zero, List.set_cons_succ]
  refine wpAnyH_take (i := 12) (oi := { dst := some 58, op := Op.pick (Operand.tmp 52) (Operand.tmp 57) (Operand.const (Value.bool false)), type := 4, pos := "law.go:21", after := #[{ on := 6, ground := Ground.data }, { on := 11, ground := Ground.data }], guard := none }) (v := ?_) (listed := al8_l12) al8_g12 al8_nosel al8_f12 al8_r12 (fun _ _ _ h => h) (Or.inl ⟨by rfl, ?_⟩) (by assumption) ?_
  rotate_left
  focus (intro w hSw; (try dsimp only at hSw); go_simp; try (with_reducible rfl))
  try simp only [Act.put, List.setIfInBounds_toArray, List.set_cons_zero, List.set_cons_succ]
  refine wpAnyH_take (i := 13) (oi := { dst := some 59, op := Op.move (Operand.tmp 58), type := 4, pos := "law.go:21", after := #[{ on := 12, ground := Ground.data }, { on := 6, ground := Ground.chain }], guard := none }) (v := ?_) (listed := al8_l13) al8_g13 al8_nosel al8_f13 al8_r13 (fun _ _ _ h => h) (Or.inl ⟨by rfl, ?_⟩) (by assumption) ?_
  rotate_left
  focus (intro w hSw; (try dsimp only at hSw); go_simp; try (with_reducible rfl))
  try simp only [Act.put, List.setIfInBounds_toArray, List.set_cons_zero, List.set_cons_succ]
  refine wpAnyH_take (i := 14) (oi := { dst := some 60, op := Op.move (Operand.tmp 1), type := 25, pos := "law.go:21", after := #[{ on := 13, ground := Ground.guard }], guard := some (13, true) }) (v := ?_) (listed := al8_l14) al8_g14 al8_nosel al8_f14 al8_r14 (fun _ _ _ h => h) (Or.inl ⟨by rfl, ?_⟩) (by assumption) ?_
  rotate_left
  focus (intro w hSw; (try dsimp only at hSw); go_simp; try (with_reducible rfl))
  try simp only [Act.put, List.setIfInBounds_toArray, List.set_cons_zero, List.set_cons_succ]
  refine wpAnyH_take (i := 15) (oi := { dst := some 61, op := Op.indexAddr 25 (Operand.tmp 60) (Operand.const (Value.int IntKind.i64 1)), type := 0, pos := "law.go:21", after := #[{ on := 14, ground := Ground.data }, { on := 13, ground := Ground.guard }], guard := some (13, true) }) (v := ?_) (listed := al8_l15) al8_g15 al8_nosel al8_f15 al8_r15 (fun _ _ _ h => h) (Or.inl ⟨by rfl, ?_⟩) (by assumption) ?_
  rotate_left
  focus (intro w hSw; (try dsimp only at hSw); go_simp; try (with_reducible rfl))
  try simp only [Act.put, List.setIfInBounds_toArray, List.set_cons_zero, List.set_cons_succ]
  refine wpAnyH_take (i := 16) (oi := { dst := some 62, op := Op.fieldAddr 35 (Operand.tmp 61) 2, type := 0, pos := "law.go:21", after := #[{ on := 15, ground := Ground.data }, { on := 13, ground := Ground.guard }], guard := some (13, true) }) (v := ?_) (listed := al8_l16) al8_g16 al8_nosel al8_f16 al8_r16 (fun _ _ _ h => h) (Or.inl ⟨by rfl, ?_⟩) (by assumption) ?_
  rotate_left
  focus (intro w hSw; (try dsimp only at hSw); go_simp; try (with_reducible rfl))
  try simp only [Act.put, List.setIfInBounds_toArray, List.set_cons_zero, List.set_cons_succ]
  refine wpAnyH_take (i := 17) (oi := { dst := some 63, op := Op.load 5 (Operand.tmp 62), type := 5, pos := "law.go:21", after := #[{ on := 16, ground := Ground.data }, { on := 13, ground := Ground.guard }], guard := some (13, true) }) (v := ?_) (listed := al8_l17) al8_g17 al8_nosel al8_f17 al8_r17 (fun _ _ _ h => h) (Or.inl ⟨by rfl, ?_⟩) (by assumption) ?_
  rotate_left
  focus (intro w hSw; (try dsimp only at hSw); go_simp; try (with_reducible rfl))
  try simp only [Act.put, List.setIfInBounds_toArray, List.set_cons_zero, List.set_cons_succ]
  refine wpAnyH_take (i := 18) (oi := { dst := some 64, op := Op.binOp BinOp.eql 5 (Operand.tmp 63) (Operand.const (Value.int IntKind.u8 48)) 5, type := 4, pos := "law.go:21", after := #[{ on := 17, ground := Ground.data }, { on := 13, ground := Ground.guard }], guard := some (13, true) }) (v := ?_) (listed := al8_l18) al8_g18 al8_nosel al8_f18 al8_r18 (fun _ _ _ h => h) (Or.inl ⟨by rfl, ?_⟩) (by assumption) ?_
  rotate_left
  focus (intro w hSw; (try dsimp only at hSw); go_simp; try (with_reducible rfl))
  try simp only [Act.put, List.setIfInBounds_toArray, List.set_cons_zero, List.set_cons_succ]
  refine wpAnyH_take (i := 19) (oi := { dst := some 65, op := Op.pick (Operand.tmp 59) (Operand.tmp 64) (Operand.const (Value.bool false)), type := 4, pos := "law.go:21", after := #[{ on := 13, ground := Ground.data }, { on := 18, ground := Ground.data }], guard := none }) (v := ?_) (listed := al8_l19) al8_g19 al8_nosel al8_f19 al8_r19 (fun _ _ _ h => h) (Or.inl ⟨by rfl, ?_⟩) (by assumption) ?_
  rotate_left
  focus (intro w hSw; (try dsimp only at hSw); go_simp; try (with_reducible rfl))
  try simp only [Act.put, List.setIfInBounds_toArray, List.set_cons_zero, List.set_cons_succ]
  refine wpAnyH_take (i := 20) (oi := { dst := some 66, op := Op.move (Operand.tmp 65), type := 4, pos := "law.go:21", after := #[{ on := 19, ground := Ground.data }, { on := 13, ground := Ground.chain }], guard := none }) (v := ?_) (listed := al8_l20) al8_g20 al8_nosel al8_f20 al8_r20 (fun _ _ _ h => h) (Or.inl ⟨by rfl, ?_⟩) (by assumption) ?_
  rotate_left
  focus (intro w hSw; (try dsimp only at hSw); go_simp; try (with_reducible rfl))
  try simp only [Act.put, List.setIfInBounds_toArray, List.set_cons_zero, List.set_cons_succ]
  refine wpAnyH_take (i := 21) (oi := { dst := some 67, op := Op.move (Operand.tmp 1), type := 25, pos := "law.go:21", after := #[{ on := 20, ground := Ground.guard }], guard := some (20, true) }) (v := ?_) (listed := al8_l21) al8_g21 al8_nosel al8_f21 al8_r21 (fun _ _ _ h => h) (Or.inl ⟨by rfl, ?_⟩) (by assumption) ?_
  rotate_left
  focus (intro w hSw; (try dsimp only at hSw); go_simp; try (with_reducible rfl))
  try simp only [Act.put, List.setIfInBounds_toArray, List.set_cons_zero, List.set_cons_succ]
  refine wpAnyH_take (i := 22) (oi := { dst := some 68, op := Op.indexAddr 25 (Operand.tmp 67) (Operand.const (Value.int IntKind.i64 2)), type := 0, pos := "law.go:21", after := #[{ on := 21, ground := Ground.data }, { on := 20, ground := Ground.guard }], guard := some (20, true) }) (v := ?_) (listed := al8_l22) al8_g22 al8_nosel al8_f22 al8_r22 (fun _ _ _ h => h) (Or.inl ⟨by rfl, ?_⟩) (by assumption) ?_
  rotate_left
  focus (intro w hSw; (try dsimp only at hSw); go_simp; try (with_reducible rfl))
  try simp only [Act.put, List.setIfInBounds_toArray, List.set_cons_zero, List.set_cons_succ]
  refine wpAnyH_take (i := 23) (oi := { dst := some 69, op := Op.fieldAddr 35 (Operand.tmp 68) 5, type := 0, pos := "law.go:21", after := #[{ on := 22, ground := Ground.data }, { on := 20, ground := Ground.guard }], guard := some (20, true) }) (v := ?_) (listed := al8_l23) al8_g23 al8_nosel al8_f23 al8_r23 (fun _ _ _ h => h) (Or.inl ⟨by rfl, ?_⟩) (by assumption) ?_
  rotate_left
  focus (intro w hSw; (try dsimp only at hSw); go_simp; try (with_reducible rfl))
  try simp only [Act.put, List.setIfInBounds_toArray, List.set_cons_zero, List.set_cons_succ]
  refine wpAnyH_take (i := 24) (oi := { dst := some 70, op := Op.load 22 (Operand.tmp 69), type := 22, pos := "law.go:21", after := #[{ on := 23, ground := Ground.data }, { on := 20, ground := Ground.guard }], guard := some (20, true) }) (v := ?_) (listed := al8_l24) al8_g24 al8_nosel al8_f24 al8_r24 (fun _ _ _ h => h) (Or.inl ⟨by rfl, ?_⟩) (by assumption) ?_
  rotate_left
  focus (intro w hSw; (try dsimp only at hSw); go_simp; try (with_reducible rfl))
  try simp only [Act.put, List.setIfInBounds_toArray, List.set_cons_zero, List.set_cons_succ]
  refine wpAnyH_take (i := 25) (oi := { dst := some 71, op := Op.convert 22 9 (Operand.tmp 70), type := 9, pos := "law.go:21", after := #[{ on := 24, ground := Ground.data }, { on := 20, ground := Ground.guard }], guard := some (20, true) }) (v := ?_) (listed := al8_l25) al8_g25 al8_nosel al8_f25 al8_r25 (fun _ _ _ h => h) (Or.inl ⟨by rfl, ?_⟩) (by assumption) ?_
  rotate_left
  focus (intro w hSw; (try dsimp only at hSw); go_simp; try (with_reducible rfl))
  try simp only [Act.put, List.setIfInBounds_toArray, List.set_cons_zero, List.set_cons_succ]
  refine wpAnyH_take (i := 26) (oi := { dst := some 72, op := Op.binOp BinOp.eql 9 (Operand.tmp 71) (Operand.const (Value.string { data := #[193] })) 9, type := 4, pos := "law.go:21", after := #[{ on := 25, ground := Ground.data }, { on := 20, ground := Ground.guard }], guard := some (20, true) }) (v := ?_) (listed := al8_l26) al8_g26 al8_nosel al8_f26 al8_r26 (fun _ _ _ h => h) (Or.inl ⟨by rfl, ?_⟩) (by assumption) ?_
  rotate_left
  focus (intro w hSw; (try dsimp only at hSw); go_simp; try (with_reducible rfl))
  try simp only [Act.put, List.setIfInBounds_toArray, List.set_cons_zero, List.set_cons_succ]
  refine wpAnyH_take (i := 27) (oi := { dst := some 73, op := Op.pick (Operand.tmp 66) (Operand.tmp 72) (Operand.const (Value.bool false)), type := 4, pos := "law.go:21", after := #[{ on := 20, ground := Ground.data }, { on := 26, ground := Ground.data }], guard := none }) (v := ?_) (listed := al8_l27) al8_g27 al8_nosel al8_f27 al8_r27 (fun _ _ _ h => h) (Or.inl ⟨by rfl, ?_⟩) (by assumption) ?_
  rotate_left
  focus (intro w hSw; (try dsimp only at hSw); go_simp; try (with_reducible rfl))
  try simp only [Act.put, List.setIfInBounds_toArray, List.set_cons_zero, List.set_cons_succ]
  refine wpAnyH_take (i := 28) (oi := { dst := some 74, op := Op.move (Operand.tmp 73), type := 4, pos := "law.go:21", after := #[{ on := 27, ground := Ground.data }, { on := 20, ground := Ground.chain }], guard := none }) (v := ?_) (listed := al8_l28) al8_g28 al8_nosel al8_f28 al8_r28 (fun _ _ _ h => h) (Or.inl ⟨by rfl, ?_⟩) (by assumption) ?_
  rotate_left
  focus (intro w hSw; (try dsimp only at hSw); go_simp; try (with_reducible rfl))
  try simp only [Act.put, List.setIfInBounds_toArray, List.set_cons_zero, List.set_cons_succ]
  refine wpAnyH_take (i := 29) (oi := { dst := some 75, op := Op.move (Operand.tmp 5), type := 3, pos := "law.go:21", after := #[{ on := 28, ground := Ground.guard }], guard := some (28, true) }) (v := ?_) (listed := al8_l29) al8_g29 al8_nosel al8_f29 al8_r29 (fun _ _ _ h => h) (Or.inl ⟨by rfl, ?_⟩) (by assumption) ?_
  rotate_left
  focus (intro w hSw; (try dsimp only at hSw); go_simp; try (with_reducible rfl))
  try simp only [Act.put, List.setIfInBounds_toArray, List.set_cons_zero, List.set_cons_succ]
  refine wpAnyH_take (i := 30) (oi := { dst := some 76, op := Op.binOp BinOp.eql 3 (Operand.tmp 75) (Operand.const (Value.int IntKind.i64 1)) 3, type := 4, pos := "law.go:21", after := #[{ on := 29, ground := Ground.data }, { on := 28, ground := Ground.guard }], guard := some (28, true) }) (v := ?_) (listed := al8_l30) al8_g30 al8_nosel al8_f30 al8_r30 (fun _ _ _ h => h) (Or.inl ⟨by rfl, ?_⟩) (by assumption) ?_
  rotate_left
  focus (intro w hSw; (try dsimp only at hSw); go_simp; try (with_reducible rfl))
  try simp only [Act.put, List.setIfInBounds_toArray, List.set_cons_zero, List.set_cons_succ]
  refine wpAnyH_take (i := 31) (oi := { dst := some 77, op := Op.pick (Operand.tmp 74) (Operand.tmp 76) (Operand.const (Value.bool false)), type := 4, pos := "law.go:21", after := #[{ on := 28, ground := Ground.data }, { on := 30, ground := Ground.data }], guard := none }) (v := ?_) (listed := al8_l31) al8_g31 al8_nosel al8_f31 al8_r31 (fun _ _ _ h => h) (Or.inl ⟨by rfl, ?_⟩) (by assumption) ?_
  rotate_left
  focus (intro w hSw; (try dsimp only at hSw); go_simp; try (with_reducible rfl))
  try simp only [Act.put, List.setIfInBounds_toArray, List.set_cons_zero, List.set_cons_succ]
  refine wpAnyH_take (i := 32) (oi := { dst := some 78, op := Op.move (Operand.tmp 77), type := 4, pos := "law.go:21", after := #[{ on := 31, ground := Ground.data }, { on := 28, ground := Ground.chain }], guard := none }) (v := ?_) (listed := al8_l32) al8_g32 al8_nosel al8_f32 al8_r32 (fun _ _ _ h => h) (Or.inl ⟨by rfl, ?_⟩) (by assumption) ?_
  rotate_left
  focus (intro w hSw; (try dsimp only at hSw); go_simp; try (with_reducible rfl))
  try simp only [Act.put, List.setIfInBounds_toArray, List.set_cons_zero, List.set_cons_succ]
  refine wpAnyH_take (i := 33) (oi := { dst := some 79, op := Op.move (Operand.tmp 6), type := 26, pos := "law.go:21", after := #[{ on := 32, ground := Ground.guard }], guard := some (32, true) }) (v := ?_) (listed := al8_l33) al8_g33 al8_nosel al8_f33 al8_r33 (fun _ _ _ h => h) (Or.inl ⟨by rfl, ?_⟩) (by assumption) ?_
  rotate_left
  focus (intro w hSw; (try dsimp only at hSw); go_simp; try (with_reducible rfl))
  try simp only [Act.put, List.setIfInBounds_toArray, List.set_cons_zero, List.set_cons_succ]
  refine wpAnyH_take (i := 34) (oi := { dst := some 80, op := Op.binOp BinOp.eql 26 (Operand.tmp 79) (Operand.const (Value.int IntKind.i64 20)) 26, type := 4, pos := "law.go:21", after := #[{ on := 33, ground := Ground.data }, { on := 32, ground := Ground.guard }], guard := some (32, true) }) (v := ?_) (listed := al8_l34) al8_g34 al8_nosel al8_f34 al8_r34 (fun _ _ _ h => h) (Or.inl ⟨by rfl, ?_⟩) (by assumption) ?_
  rotate_left
  focus (intro w hSw; (try dsimp only at hSw); go_simp; try (with_reducible rfl))
  try simp only [Act.put, List.setIfInBounds_toArray, List.set_cons_zero, List.set_cons_succ]
  refine wpAnyH_take (i := 35) (oi := { dst := some 81, op := Op.pick (Operand.tmp 78) (Operand.tmp 80) (Operand.const (Value.bool false)), type := 4, pos := "law.go:21", after := #[{ on := 32, ground := Ground.data }, { on := 34, ground := Ground.data }], guard := none }) (v := ?_) (listed := al8_l35) al8_g35 al8_nosel al8_f35 al8_r35 (fun _ _ _ h => h) (Or.inl ⟨by rfl, ?_⟩) (by assumption) ?_
  rotate_left
  focus (intro w hSw; (try dsimp only at hSw); go_simp; try (with_reducible rfl))
  try simp only [Act.put, List.setIfInBounds_toArray, List.set_cons_zero, List.set_cons_succ]
  refine wpAnyH_take (i := 36) (oi := { dst := some 82, op := Op.move (Operand.tmp 81), type := 4, pos := "law.go:21", after := #[{ on := 35, ground := Ground.data }, { on := 32, ground := Ground.chain }], guard := none }) (v := ?_) (listed := al8_l36) al8_g36 al8_nosel al8_f36 al8_r36 (fun _ _ _ h => h) (Or.inl ⟨by rfl, ?_⟩) (by assumption) ?_
  rotate_left
  focus (intro w hSw; (try dsimp only at hSw); go_simp; try (with_reducible rfl))
  try simp only [Act.put, List.setIfInBounds_toArray, List.set_cons_zero, List.set_cons_succ]
  refine wpAnyH_take (i := 37) (oi := { dst := some 83, op := Op.move (Operand.tmp 9), type := 26, pos := "law.go:21", after := #[{ on := 36, ground := Ground.guard }], guard := some (36, true) }) (v := ?_) (listed := al8_l37) al8_g37 al8_nosel al8_f37 al8_r37 (fun _ _ _ h => h) (Or.inl ⟨by rfl, ?_⟩) (by assumption) ?_
  rotate_left
  focus (intro w hSw; (try dsimp only at hSw); go_simp; try (with_reducible rfl))
  try simp only [Act.put, List.setIfInBounds_toArray, List.set_cons_zero, List.set_cons_succ]
  refine wpAnyH_take (i := 38) (oi := { dst := some 84, op := Op.binOp BinOp.eql 26 (Operand.tmp 83) (Operand.const (Value.int IntKind.i64 31)) 26, type := 4, pos := "law.go:21", after := #[{ on := 37, ground := Ground.data }, { on := 36, ground := Ground.guard }], guard := some (36, true) }) (v := ?_) (listed := al8_l38) al8_g38 al8_nosel al8_f38 al8_r38 (fun _ _ _ h => h) (Or.inl ⟨by rfl, ?_⟩) (by assumption) ?_
  rotate_left
  focus (intro w hSw; (try dsimp only at hSw); go_simp; try (with_reducible rfl))
  try simp only [Act.put, List.setIfInBounds_toArray, List.set_cons_zero, List.set_cons_succ]
  refine wpAnyH_take (i := 39) (oi := { dst := some 85, op := Op.pick (Operand.tmp 82) (Operand.tmp 84) (Operand.const (Value.bool false)), type := 4, pos := "law.go:21", after := #[{ on := 36, ground := Ground.data }, { on := 38, ground := Ground.data }], guard := none }) (v := ?_) (listed := al8_l39) al8_g39 al8_nosel al8_f39 al8_r39 (fun _ _ _ h => h) (Or.inl ⟨by rfl, ?_⟩) (by assumption) ?_
  rotate_left
  focus (intro w hSw; (try dsimp only at hSw); go_simp; try (with_reducible rfl))
  try simp only [Act.put, List.setIfInBounds_toArray, List.set_cons_zero, List.set_cons_succ]
  refine wpAnyH_take (i := 40) (oi := { dst := some 86, op := Op.move (Operand.tmp 85), type := 4, pos := "law.go:21", after := #[{ on := 39, ground := Ground.data }, { on := 36, ground := Ground.chain }], guard := none }) (v := ?_) (listed := al8_l40) al8_g40 al8_nosel al8_f40 al8_r40 (fun _ _ _ h => h) (Or.inl ⟨by rfl, ?_⟩) (by assumption) ?_
  rotate_left
  focus (intro w hSw; (try dsimp only at hSw); go_simp; try (with_reducible rfl))
  try simp only [Act.put, List.setIfInBounds_toArray, List.set_cons_zero, List.set_cons_succ]
  refine wpAnyH_take (i := 41) (oi := { dst := some 87, op := Op.move (Operand.tmp 10), type := 22, pos := "law.go:21", after := #[{ on := 40, ground := Ground.guard }], guard := some (40, true) }) (v := ?_) (listed := al8_l41) al8_g41 al8_nosel al8_f41 al8_r41 (fun _ _ _ h => h) (Or.inl ⟨by rfl, ?_⟩) (by assumption) ?_
  rotate_left
  focus (intro w hSw; (try dsimp only at hSw); go_simp; try (with_reducible rfl))
  try simp only [Act.put, List.setIfInBounds_toArray, List.set_cons_zero, List.set_cons_succ]
  refine wpAnyH_take (i := 42) (oi := { dst := some 88, op := Op.convert 22 9 (Operand.tmp 87), type := 9, pos := "law.go:21", after := #[{ on := 41, ground := Ground.data }, { on := 40, ground := Ground.guard }], guard := some (40, true) }) (v := ?_) (listed := al8_l42) al8_g42 al8_nosel al8_f42 al8_r42 (fun _ _ _ h => h) (Or.inl ⟨by rfl, ?_⟩) (by assumption) ?_
  rotate_left
  focus (intro w hSw; (try dsimp only at hSw); go_simp; try (with_reducible rfl))
  try simp only [Act.put, List.setIfInBounds_toArray, List.set_cons_zero, List.set_cons_succ]
  refine wpAnyH_take (i := 43) (oi := { dst := some 89, op := Op.binOp BinOp.eql 9 (Operand.tmp 88) (Operand.const (Value.string { data := #[17, 64, 64, 29, 240, 193] })) 9, type := 4, pos := "law.go:21", after := #[{ on := 42, ground := Ground.data }, { on := 40, ground := Ground.guard }], guard := some (40, true) }) (v := ?_) (listed := al8_l43) al8_g43 al8_nosel al8_f43 al8_r43 (fun _ _ _ h => h) (Or.inl ⟨by rfl, ?_⟩) (by assumption) ?_
  rotate_left
  focus (intro w hSw; (try dsimp only at hSw); go_simp; try (with_reducible rfl))
  try simp only [Act.put, List.setIfInBounds_toArray, List.set_cons_zero, List.set_cons_succ]
  refine wpAnyH_take (i := 44) (oi := { dst := some 90, op := Op.pick (Operand.tmp 86) (Operand.tmp 89) (Operand.const (Value.bool false)), type := 4, pos := "law.go:21", after := #[{ on := 40, ground := Ground.data }, { on := 43, ground := Ground.data }], guard := none }) (v := ?_) (listed := al8_l44) al8_g44 al8_nosel al8_f44 al8_r44 (fun _ _ _ h => h) (Or.inl ⟨by rfl, ?_⟩) (by assumption) ?_
  rotate_left
  focus (intro w hSw; (try dsimp only at hSw); go_simp; try (with_reducible rfl))
  try simp only [Act.put, List.setIfInBounds_toArray, List.set_cons_zero, List.set_cons_succ]
  refine wpAnyH_take (i := 45) (oi := { dst := some 91, op := Op.move (Operand.tmp 90), type := 4, pos := "law.go:21", after := #[{ on := 44, ground := Ground.data }, { on := 40, ground := Ground.chain }], guard := none }) (v := ?_) (listed := al8_l45) al8_g45 al8_nosel al8_f45 al8_r45 (fun _ _ _ h => h) (Or.inl ⟨by rfl, ?_⟩) (by assumption) ?_
  rotate_left
  focus (intro w hSw; (try dsimp only at hSw); go_simp; try (with_reducible rfl))
  try simp only [Act.put, List.setIfInBounds_toArray, List.set_cons_zero, List.set_cons_succ]
  refine wpAnyH_take (i := 46) (oi := { dst := some 92, op := Op.move (Operand.tmp 11), type := 26, pos := "law.go:21", after := #[{ on := 45, ground := Ground.guard }], guard := some (45, true) }) (v := ?_) (listed := al8_l46) al8_g46 al8_nosel al8_f46 al8_r46 (fun _ _ _ h => h) (Or.inl ⟨by rfl, ?_⟩) (by assumption) ?_
  rotate_left
  focus (intro w hSw; (try dsimp only at hSw); go_simp; try (with_reducible rfl))
  try simp only [Act.put, List.setIfInBounds_toArray, List.set_cons_zero, List.set_cons_succ]
  refine wpAnyH_take (i := 47) (oi := { dst := some 93, op := Op.binOp BinOp.eql 26 (Operand.tmp 92) (Operand.const (Value.int IntKind.i64 0)) 26, type := 4, pos := "law.go:21", after := #[{ on := 46, ground := Ground.data }, { on := 45, ground := Ground.guard }], guard := some (45, true) }) (v := ?_) (listed := al8_l47) al8_g47 al8_nosel al8_f47 al8_r47 (fun _ _ _ h => h) (Or.inl ⟨by rfl, ?_⟩) (by assumption) ?_
  rotate_left
  focus (intro w hSw; (try dsimp only at hSw); go_simp; try (with_reducible rfl))
  try simp only [Act.put, List.setIfInBounds_toArray, List.set_cons_zero, List.set_cons_succ]
  refine wpAnyH_take (i := 48) (oi := { dst := some 94, op := Op.pick (Operand.tmp 91) (Operand.tmp 93) (Operand.const (Value.bool false)), type := 4, pos := "law.go:21", after := #[{ on := 45, ground := Ground.data }, { on := 47, ground := Ground.data }], guard := none }) (v := ?_) (listed := al8_l48) al8_g48 al8_nosel al8_f48 al8_r48 (fun _ _ _ h => h) (Or.inl ⟨by rfl, ?_⟩) (by assumption) ?_
  rotate_left
  focus (intro w hSw; (try dsimp only at hSw); go_simp; try (with_reducible rfl))
  try simp only [Act.put, List.setIfInBounds_toArray, List.set_cons_zero, List.set_cons_succ]
  refine wpAnyH_take (i := 49) (oi := { dst := some 95, op := Op.move (Operand.tmp 94), type := 4, pos := "law.go:21", after := #[{ on := 48, ground := Ground.data }, { on := 45, ground := Ground.chain }], guard := none }) (v := ?_) (listed := al8_l49) al8_g49 al8_nosel al8_f49 al8_r49 (fun _ _ _ h => h) (Or.inl ⟨by rfl, ?_⟩) (by assumption) ?_
  rotate_left
  focus (intro w hSw; (try dsimp only at hSw); go_simp; try (with_reducible rfl))
  try simp only [Act.put, List.setIfInBounds_toArray, List.set_cons_zero, List.set_cons_succ]
  refine wpAnyH_take (i := 50) (oi := { dst := some 96, op := Op.move (Operand.tmp 13), type := 26, pos := "law.go:21", after := #[{ on := 49, ground := Ground.guard }], guard := some (49, true) }) (v := ?_) (listed := al8_l50) al8_g50 al8_nosel al8_f50 al8_r50 (fun _ _ _ h => h) (Or.inl ⟨by rfl, ?_⟩) (by assumption) ?_
  rotate_left
  focus (intro w hSw; (try dsimp only at hSw); go_simp; try (with_reducible rfl))
  try simp only [Act.put, List.setIfInBounds_toArray, List.set_cons_zero, List.set_cons_succ]
  refine wpAnyH_take (i := 51) (oi := { dst := some 97, op := Op.binOp BinOp.eql 26 (Operand.tmp 96) (Operand.const (Value.int IntKind.i64 32)) 26, type := 4, pos := "law.go:21", after := #[{ on := 50, ground := Ground.data }, { on := 49, ground := Ground.guard }], guard := some (49, true) }) (v := ?_) (listed := al8_l51) al8_g51 al8_nosel al8_f51 al8_r51 (fun _ _ _ h => h) (Or.inl ⟨by rfl, ?_⟩) (by assumption) ?_
  rotate_left
  focus (intro w hSw; (try dsimp only at hSw); go_simp; try (with_reducible rfl))
  try simp only [Act.put, List.setIfInBounds_toArray, List.set_cons_zero, List.set_cons_succ]
  refine wpAnyH_take (i := 52) (oi := { dst := some 98, op := Op.pick (Operand.tmp 95) (Operand.tmp 97) (Operand.const (Value.bool false)), type := 4, pos := "law.go:21", after := #[{ on := 49, ground := Ground.data }, { on := 51, ground := Ground.data }], guard := none }) (v := ?_) (listed := al8_l52) al8_g52 al8_nosel al8_f52 al8_r52 (fun _ _ _ h => h) (Or.inl ⟨by rfl, ?_⟩) (by assumption) ?_
  rotate_left
  focus (intro w hSw; (try dsimp only at hSw); go_simp; try (with_reducible rfl))
  try simp only [Act.put, List.setIfInBounds_toArray, List.set_cons_zero, List.set_cons_succ]
  refine wpAnyH_take (i := 53) (oi := { dst := some 99, op := Op.move (Operand.tmp 98), type := 4, pos := "law.go:21", after := #[{ on := 52, ground := Ground.data }, { on := 49, ground := Ground.chain }], guard := none }) (v := ?_) (listed := al8_l53) al8_g53 al8_nosel al8_f53 al8_r53 (fun _ _ _ h => h) (Or.inl ⟨by rfl, ?_⟩) (by assumption) ?_
  rotate_left
  focus (intro w hSw; (try dsimp only at hSw); go_simp; try (with_reducible rfl))
  try simp only [Act.put, List.setIfInBounds_toArray, List.set_cons_zero, List.set_cons_succ]
  refine wpAnyH_take (i := 54) (oi := { dst := some 100, op := Op.move (Operand.tmp 1), type := 25, pos := "law.go:21", after := #[{ on := 53, ground := Ground.guard }], guard := some (53, true) }) (v := ?_) (listed := al8_l54) al8_g54 al8_nosel al8_f54 al8_r54 (fun _ _ _ h => h) (Or.inl ⟨by rfl, ?_⟩) (by assumption) ?_
  rotate_left
  focus (intro w hSw; (try dsimp only at hSw); go_simp; try (with_reducible rfl))
  try simp only [Act.put, List.setIfInBounds_toArray, List.set_cons_zero, List.set_cons_succ]
  refine wpAnyH_take (i := 55) (oi := { dst := some 101, op := Op.indexAddr 25 (Operand.tmp 100) (Operand.const (Value.int IntKind.i64 1)), type := 0, pos := "law.go:21", after := #[{ on := 54, ground := Ground.data }, { on := 53, ground := Ground.guard }], guard := some (53, true) }) (v := ?_) (listed := al8_l55) al8_g55 al8_nosel al8_f55 al8_r55 (fun _ _ _ h => h) (Or.inl ⟨by rfl, ?_⟩) (by assumption) ?_
  rotate_left
  focus (intro w hSw; (try dsimp only at hSw); go_simp; try (with_reducible rfl))
  try simp only [Act.put, List.setIfInBounds_toArray, List.set_cons_zero, List.set_cons_succ]
  refine wpAnyH_take (i := 56) (oi := { dst := some 102, op := Op.load 35 (Operand.tmp 101), type := 35, pos := "law.go:21", after := #[{ on := 55, ground := Ground.data }, { on := 53, ground := Ground.guard }], guard := some (53, true) }) (v := ?_) (listed := al8_l56) al8_g56 al8_nosel al8_f56 al8_r56 (fun _ _ _ h => h) (Or.inl ⟨by rfl, ?_⟩) (by assumption) ?_
  rotate_left
  focus (intro w hSw; (try dsimp only at hSw); go_simp; try (with_reducible rfl))
  try simp only [Act.put, List.setIfInBounds_toArray, List.set_cons_zero, List.set_cons_succ]
  refine wpAnyH_ready (rs := [57]) (listed := al8_l57) al8_r57 (by simp) (AllReadyH.cons (o := { dst := some 103, op := Op.call { callee := Callee.value (Operand.func 21), args := #[Operand.tmp 102], argTypes := #[35] }, type := 9, pos := "law.go:21", after := #[{ on := 56, ground := Ground.data }, { on := 53, ground := Ground.chain }, { on := 53, ground := Ground.guard }], guard := some (53, true) }) al8_g57 (fun K hK => ?_) AllReadyH.nil)
  rw [if_pos (by rfl)]
  go_simp
  (go_at_call 21; refine (show Calls Tryd.prog 21 #[.agg #[.int .u8 29, .int .i64 0, .int .u8 48, .bool false, .slice a2 0 c2, .slice a4 0 c4]] W5.drew fun e w' => e = .returned (.string ⟨#[83, 70, 32, 51, 48]⟩) ∧ Below W5.drew.heap.size W5.drew w' from HTX.out).mono ?_; rintro e W6 ⟨rfl, b6⟩; have HAQ6 := Lib.hid (HAQ5d.out.below b6); clear b6)
  go_wp2_with fail
  refine hK.out _ _ (AQ.s HAQ6.out) (fun hHeld => ?_)
  clear hK K
  try simp only [Act.put, List.setIfInBounds_toArray, List.set_cons_zero, List.set_cons_succ]
  refine wpAnyH_take (i := 58) (oi := { dst := some 104, op := Op.binOp BinOp.eql 9 (Operand.tmp 103) (Operand.const (Value.string { data := #[83, 70, 32, 51, 48] })) 9, type := 4, pos := "law.go:21", after := #[{ on := 57, ground := Ground.data }, { on := 53, ground := Ground.guard }], guard := some (53, true) }) (v := ?_) (listed := al8_l58) al8_g58 al8_nosel al8_f58 al8_r58 (fun _ _ _ h => h) (Or.inl ⟨by rfl, ?_⟩) (by assumption) ?_
  rotate_left
  focus (intro w hSw; (try dsimp only at hSw); go_simp; try (with_reducible rfl))
  try simp only [Act.put, List.setIfInBounds_toArray, List.set_cons_zero, List.set_cons_succ]
  refine wpAnyH_take (i := 59) (oi := { dst := some 105, op := Op.pick (Operand.tmp 99) (Operand.tmp 104) (Operand.const (Value.bool false)), type := 4, pos := "law.go:21", after := #[{ on := 53, ground := Ground.data }, { on := 58, ground := Ground.data }], guard := none }) (v := ?_) (listed := al8_l59) al8_g59 al8_nosel al8_f59 al8_r59 (fun _ _ _ h => h) (Or.inl ⟨by rfl, ?_⟩) (by assumption) ?_
  rotate_left
  focus (intro w hSw; (try dsimp only at hSw); go_simp; try (with_reducible rfl))
  try simp only [Act.put, List.setIfInBounds_toArray, List.set_cons_zero, List.set_cons_succ]
  refine wpAnyH_take (i := 60) (oi := { dst := some 106, op := Op.move (Operand.tmp 105), type := 4, pos := "law.go:21", after := #[{ on := 59, ground := Ground.data }, { on := 57, ground := Ground.chain }], guard := none }) (v := ?_) (listed := al8_l60) al8_g60 al8_nosel al8_f60 al8_r60 (fun _ _ _ h => h) (Or.inl ⟨by rfl, ?_⟩) (by assumption) ?_
  rotate_left
  focus (intro w hSw; (try dsimp only at hSw); go_simp; try (with_reducible rfl))
  try simp only [Act.put, List.setIfInBounds_toArray, List.set_cons_zero, List.set_cons_succ]
  refine wpAnyH_take (i := 61) (oi := { dst := some 107, op := Op.move (Operand.tmp 1), type := 25, pos := "law.go:21", after := #[{ on := 60, ground := Ground.guard }], guard := some (60, true) }) (v := ?_) (listed := al8_l61) al8_g61 al8_nosel al8_f61 al8_r61 (fun _ _ _ h => h) (Or.inl ⟨by rfl, ?_⟩) (by assumption) ?_
  rotate_left
  focus (intro w hSw; (try dsimp only at hSw); go_simp; try (with_reducible rfl))
  try simp only [Act.put, List.setIfInBounds_toArray, List.set_cons_zero, List.set_cons_succ]
  refine wpAnyH_take (i := 62) (oi := { dst := some 108, op := Op.indexAddr 25 (Operand.tmp 107) (Operand.const (Value.int IntKind.i64 0)), type := 0, pos := "law.go:21", after := #[{ on := 61, ground := Ground.data }, { on := 60, ground := Ground.guard }], guard := some (60, true) }) (v := ?_) (listed := al8_l62) al8_g62 al8_nosel al8_f62 al8_r62 (fun _ _ _ h => h) (Or.inl ⟨by rfl, ?_⟩) (by assumption) ?_
  rotate_left
  focus (intro w hSw; (try dsimp only at hSw); go_simp; try (with_reducible rfl))
  try simp only [Act.put, List.setIfInBounds_toArray, List.set_cons_zero, List.set_cons_succ]
  refine wpAnyH_take (i := 63) (oi := { dst := some 109, op := Op.load 35 (Operand.tmp 108), type := 35, pos := "law.go:21", after := #[{ on := 62, ground := Ground.data }, { on := 60, ground := Ground.guard }], guard := some (60, true) }) (v := ?_) (listed := al8_l63) al8_g63 al8_nosel al8_f63 al8_r63 (fun _ _ _ h => h) (Or.inl ⟨by rfl, ?_⟩) (by assumption) ?_
  rotate_left
  focus (intro w hSw; (try dsimp only at hSw); go_simp; try (with_reducible rfl))
  try simp only [Act.put, List.setIfInBounds_toArray, List.set_cons_zero, List.set_cons_succ]
  refine wpAnyH_take (i := 64) (oi := { dst := some 110, op := Op.move (Operand.tmp 1), type := 25, pos := "law.go:21", after := #[{ on := 60, ground := Ground.guard }], guard := some (60, true) }) (v := ?_) (listed := al8_l64) al8_g64 al8_nosel al8_f64 al8_r64 (fun _ _ _ h => h) (Or.inl ⟨by rfl, ?_⟩) (by assumption) ?_
  rotate_left
  focus (intro w hSw; (try dsimp only at hSw); go_simp; try (with_reducible rfl))
  try simp only [Act.put, List.setIfInBounds_toArray, List.set_cons_zero, List.set_cons_succ]
  refine wpAnyH_take (i := 65) (oi := { dst := some 111, op := Op.indexAddr 25 (Operand.tmp 110) (Operand.const (Value.int IntKind.i64 0)), type := 0, pos := "law.go:21", after := #[{ on := 64, ground := Ground.data }, { on := 60, ground := Ground.guard }], guard := some (60, true) }) (v := ?_) (listed := al8_l65) al8_g65 al8_nosel al8_f65 al8_r65 (fun _ _ _ h => h) (Or.inl ⟨by rfl, ?_⟩) (by assumption) ?_
  rotate_left
  focus (intro w hSw; (try dsimp only at hSw); go_simp; try (with_reducible rfl))
  try simp only [Act.put, List.setIfInBounds_toArray, List.set_cons_zero, List.set_cons_succ]
  refine wpAnyH_take (i := 66) (oi := { dst := some 112, op := Op.load 35 (Operand.tmp 111), type := 35, pos := "law.go:21", after := #[{ on := 65, ground := Ground.data }, { on := 60, ground := Ground.guard }], guard := some (60, true) }) (v := ?_) (listed := al8_l66) al8_g66 al8_nosel al8_f66 al8_r66 (fun _ _ _ h => h) (Or.inl ⟨by rfl, ?_⟩) (by assumption) ?_
  rotate_left
  focus (intro w hSw; (try dsimp only at hSw); go_simp; try (with_reducible rfl))
  try simp only [Act.put, List.setIfInBounds_toArray, List.set_cons_zero, List.set_cons_succ]
  refine wpAnyH_ready (rs := [67]) (listed := al8_l67) al8_r67 (by simp) (AllReadyH.cons (o := { dst := some 113, op := Op.call { callee := Callee.value (Operand.func 20), args := #[Operand.tmp 109, Operand.tmp 112], argTypes := #[35, 35] }, type := 4, pos := "law.go:21", after := #[{ on := 63, ground := Ground.data }, { on := 66, ground := Ground.data }, { on := 60, ground := Ground.chain }, { on := 60, ground := Ground.guard }], guard := some (60, true) }) al8_g67 (fun K hK => ?_) AllReadyH.nil)
  rw [if_pos (by rfl)]
  go_simp
  (go_at_call 20; refine (show Calls Tryd.prog 20 #[.agg #[.int .u8 17, .int .i64 0, .int .u8 0, .bool false, .slice a1 0 c1, .slice a3 0 c3], .agg #[.int .u8 17, .int .i64 0, .int .u8 0, .bool false, .slice a1 0 c1, .slice a3 0 c3]] W6 fun e w' => e = .returned (.bool true) ∧ Below W6.heap.size W6 w' from al_same1 HAQ6.out).mono ?_; rintro e W7 ⟨rfl, b7⟩; have HAQ7 := Lib.hid (HAQ6.out.below b7); clear b7)
  go_wp2_with fail
  refine hK.out _ _ (AQ.s HAQ7.out) (fun hHeld => ?_)
  clear hK K
  try simp only [Act.put, List.setIfInBounds_toArray, List.set_cons_zero, List.set_cons_succ]
  refine wpAnyH_take (i := 68) (oi := { dst := some 114, op := Op.pick (Operand.tmp 106) (Operand.tmp 113) (Operand.const (Value.bool false)), type := 4, pos := "law.go:21", after := #[{ on := 60, ground := Ground.data }, { on := 67, ground := Ground.data }], guard := none }) (v := ?_) (listed := al8_l68) al8_g68 al8_nosel al8_f68 al8_r68 (fun _ _ _ h => h) (Or.inl ⟨by rfl, ?_⟩) (by assumption) ?_
  rotate_left
  focus (intro w hSw; (try dsimp only at hSw); go_simp; try (with_reducible rfl))
  try simp only [Act.put, List.setIfInBounds_toArray, List.set_cons_zero, List.set_cons_succ]
  refine wpAnyH_take (i := 69) (oi := { dst := some 115, op := Op.move (Operand.tmp 114), type := 4, pos := "law.go:21", after := #[{ on := 68, ground := Ground.data }, { on := 67, ground := Ground.chain }], guard := none }) (v := ?_) (listed := al8_l69) al8_g69 al8_nosel al8_f69 al8_r69 (fun _ _ _ h => h) (Or.inl ⟨by rfl, ?_⟩) (by assumption) ?_
  rotate_left
  focus (intro w hSw; (try dsimp only at hSw); go_simp; try (with_reducible rfl))
  try simp only [Act.put, List.setIfInBounds_toArray, List.set_cons_zero, List.set_cons_succ]
  refine wpAnyH_take (i := 70) (oi := { dst := some 116, op := Op.move (Operand.tmp 1), type := 25, pos := "law.go:21", after := #[{ on := 69, ground := Ground.guard }], guard := some (69, true) }) (v := ?_) (listed := al8_l70) al8_g70 al8_nosel al8_f70 al8_r70 (fun _ _ _ h => h) (Or.inl ⟨by rfl, ?_⟩) (by assumption) ?_
  rotate_left
  focus (intro w hSw; (try dsimp only at hSw); go_simp; try (with_reducible rfl))
  try simp only [Act.put, List.setIfInBounds_toArray, List.set_cons_zero, List.set_cons_succ]
  refine wpAnyH_take (i := 71) (oi := { dst := some 117, op := Op.indexAddr 25 (Operand.tmp 116) (Operand.const (Value.int IntKind.i64 0)), type := 0, pos := "law.go:21", after := #[{ on := 70, ground := Ground.data }, { on := 69, ground := Ground.guard }], guard := some (69, true) }) (v := ?_) (listed := al8_l71) al8_g71 al8_nosel al8_f71 al8_r71 (fun _ _ _ h => h) (Or.inl ⟨by rfl, ?_⟩) (by assumption) ?_
  rotate_left
  focus (intro w hSw; (try dsimp only at hSw); go_simp; try (with_reducible rfl))
  try simp only [Act.put, List.setIfInBounds_toArray, List.set_cons_zero, List.set_cons_succ]
  refine wpAnyH_take (i := 72) (oi := { dst := some 118, op := Op.load 35 (Operand.tmp 117), type := 35, pos := "law.go:21", after := #[{ on := 71, ground := Ground.data }, { on := 69, ground := Ground.guard }], guard := some (69, true) }) (v := ?_) (listed := al8_l72) al8_g72 al8_nosel al8_f72 al8_r72 (fun _ _ _ h => h) (Or.inl ⟨by rfl, ?_⟩) (by assumption) ?_
  rotate_left
  focus (intro w hSw; (try dsimp only at hSw); go_simp; try (with_reducible rfl))
  try simp only [Act.put, List.setIfInBounds_toArray, List.set_cons_zero, List.set_cons_succ]
  refine wpAnyH_take (i := 73) (oi := { dst := some 119, op := Op.move (Operand.tmp 1), type := 25, pos := "law.go:21", after := #[{ on := 69, ground := Ground.guard }], guard := some (69, true) }) (v := ?_) (listed := al8_l73) al8_g73 al8_nosel al8_f73 al8_r73 (fun _ _ _ h => h) (Or.inl ⟨by rfl, ?_⟩) (by assumption) ?_
  rotate_left
  focus (intro w hSw; (try dsimp only at hSw); go_simp; try (with_reducible rfl))
  try simp only [Act.put, List.setIfInBounds_toArray, List.set_cons_zero, List.set_cons_succ]
  refine wpAnyH_take (i := 74) (oi := { dst := some 120, op := Op.indexAddr 25 (Operand.tmp 119) (Operand.const (Value.int IntKind.i64 1)), type := 0, pos := "law.go:21", after := #[{ on := 73, ground := Ground.data }, { on := 69, ground := Ground.guard }], guard := some (69, true) }) (v := ?_) (listed := al8_l74) al8_g74 al8_nosel al8_f74 al8_r74 (fun _ _ _ h => h) (Or.inl ⟨by rfl, ?_⟩) (by assumption) ?_
  rotate_left
  focus (intro w hSw; (try dsimp only at hSw); go_simp; try (with_reducible rfl))
  try simp only [Act.put, List.setIfInBounds_toArray, List.set_cons_zero, List.set_cons_succ]
  refine wpAnyH_take (i := 75) (oi := { dst := some 121, op := Op.load 35 (Operand.tmp 120), type := 35, pos := "law.go:21", after := #[{ on := 74, ground := Ground.data }, { on := 69, ground := Ground.guard }], guard := some (69, true) }) (v := ?_) (listed := al8_l75) al8_g75 al8_nosel al8_f75 al8_r75 (fun _ _ _ h => h) (Or.inl ⟨by rfl, ?_⟩) (by assumption) ?_
  rotate_left
  focus (intro w hSw; (try dsimp only at hSw); go_simp; try (with_reducible rfl))
  try simp only [Act.put, List.setIfInBounds_toArray, List.set_cons_zero, List.set_cons_succ]
  refine wpAnyH_ready (rs := [76]) (listed := al8_l76) al8_r76 (by simp) (AllReadyH.cons (o := { dst := some 122, op := Op.call { callee := Callee.value (Operand.func 20), args := #[Operand.tmp 118, Operand.tmp 121], argTypes := #[35, 35] }, type := 4, pos := "law.go:21", after := #[{ on := 72, ground := Ground.data }, { on := 75, ground := Ground.data }, { on := 69, ground := Ground.chain }, { on := 69, ground := Ground.guard }], guard := some (69, true) }) al8_g76 (fun K hK => ?_) AllReadyH.nil)
  rw [if_pos (by rfl)]
  go_simp
  (go_at_call 20; refine (show Calls Tryd.prog 20 #[.agg #[.int .u8 17, .int .i64 0, .int .u8 0, .bool false, .slice a1 0 c1, .slice a3 0 c3], .agg #[.int .u8 29, .int .i64 0, .int .u8 48, .bool false, .slice a2 0 c2, .slice a4 0 c4]] W7 fun e w' => e = .returned (.bool false) ∧ Below W7.heap.size W7 w' from al_same2 HAQ7.out).mono ?_; rintro e W8 ⟨rfl, b8⟩; have HAQ8 := Lib.hid (HAQ7.out.below b8); clear b8)
  go_wp2_with fail
  refine hK.out _ _ (AQ.s HAQ8.out) (fun hHeld => ?_)
  clear hK K
  try simp only [Act.put, List.setIfInBounds_toArray, List.set_cons_zero, List.set_cons_succ]
  refine wpAnyH_take (i := 77) (oi := { dst := some 123, op := Op.unOp UnOp.not 4 (Operand.tmp 122), type := 4, pos := "law.go:21", after := #[{ on := 76, ground := Ground.data }, { on := 69, ground := Ground.guard }], guard := some (69, true) }) (v := ?_) (listed := al8_l77) al8_g77 al8_nosel al8_f77 al8_r77 (fun _ _ _ h => h) (Or.inl ⟨by rfl, ?_⟩) (by assumption) ?_
  rotate_left
  focus (intro w hSw; (try dsimp only at hSw); go_simp; try (with_reducible rfl))
  try simp only [Act.put, List.setIfInBounds_toArray, List.set_cons_zero, List.set_cons_succ]
  refine wpAnyH_take (i := 78) (oi := { dst := some 124, op := Op.pick (Operand.tmp 115) (Operand.tmp 123) (Operand.const (Value.bool false)), type := 4, pos := "law.go:21", after := #[{ on := 69, ground := Ground.data }, { on := 77, ground := Ground.data }], guard := none }) (v := ?_) (listed := al8_l78) al8_g78 al8_nosel al8_f78 al8_r78 (fun _ _ _ h => h) (Or.inl ⟨by rfl, ?_⟩) (by assumption) ?_
  rotate_left
  focus (intro w hSw; (try dsimp only at hSw); go_simp; try (with_reducible rfl))
  try simp only [Act.put, List.setIfInBounds_toArray, List.set_cons_zero, List.set_cons_succ]
  refine wpAnyH_take (i := 79) (oi := { dst := some 125, op := Op.move (Operand.tmp 124), type := 4, pos := "law.go:21", after := #[{ on := 78, ground := Ground.data }, { on := 76, ground := Ground.chain }], guard := none }) (v := ?_) (listed := al8_l79) al8_g79 al8_nosel al8_f79 al8_r79 (fun _ _ _ h => h) (Or.inl ⟨by rfl, ?_⟩) (by assumption) ?_
  rotate_left
  focus (intro w hSw; (try dsimp only at hSw); go_simp; try (with_reducible rfl))
  try simp only [Act.put, List.setIfInBounds_toArray, List.set_cons_zero, List.set_cons_succ]
  refine wpAnyH_ready (rs := [80]) (listed := al8_l80) al8_r80 (by simp) (AllReadyH.cons (o := { dst := some 126, op := Op.call { callee := Callee.value (Operand.func 13), args := #[Operand.const (Value.int IntKind.u8 30)], argTypes := #[5] }, type := 4, pos := "law.go:21", after := #[{ on := 79, ground := Ground.chain }, { on := 79, ground := Ground.guard }], guard := some (79, true) }) al8_g80 (fun K hK => ?_) AllReadyH.nil)
  rw [if_pos (by rfl)]
  go_simp
  (go_at_call 13; refine (show Calls Tryd.prog 13 #[.int .u8 30] W8 fun e w' => e = .returned (.bool true) ∧ W8 = w' from plain_any 30 W8).mono ?_; rintro e w5 ⟨rfl, rfl⟩)
  go_wp2_with fail
  refine hK.out _ _ (AQ.s HAQ8.out) (fun hHeld => ?_)
  clear hK K
  try simp only [Act.put, List.setIfInBounds_toArray, List.set_cons_zero, List.set_cons_succ]
  refine wpAnyH_take (i := 81) (oi := { dst := some 127, op := Op.pick (Operand.tmp 125) (Operand.tmp 126) (Operand.const (Value.bool false)), type := 4, pos := "law.go:21", after := #[{ on := 79, ground := Ground.data }, { on := 80, ground := Ground.data }], guard := none }) (v := ?_) (listed := al8_l81) al8_g81 al8_nosel al8_f81 al8_r81 (fun _ _ _ h => h) (Or.inl ⟨by rfl, ?_⟩) (by assumption) ?_
  rotate_left
  focus (intro w hSw; (try dsimp only at hSw); go_simp; try (with_reducible rfl))
  try simp only [Act.put, List.setIfInBounds_toArray, List.set_cons_zero, List.set_cons_succ]
  refine wpAnyH_take (i := 82) (oi := { dst := some 128, op := Op.move (Operand.tmp 127), type := 4, pos := "law.go:21", after := #[{ on := 81, ground := Ground.data }, { on := 80, ground := Ground.chain }], guard := none }) (v := ?_) (listed := al8_l82) al8_g82 al8_nosel al8_f82 al8_r82 (fun _ _ _ h => h) (Or.inl ⟨by rfl, ?_⟩) (by assumption) ?_
  rotate_left
  focus (intro w hSw; (try dsimp only at hSw); go_simp; try (with_reducible rfl))
  try simp only [Act.put, List.setIfInBounds_toArray, List.set_cons_zero, List.set_cons_succ]
  refine wpAnyH_ready (rs := [83]) (listed := al8_l83) al8_r83 (by simp) (AllReadyH.cons (o := { dst := some 129, op := Op.call { callee := Callee.value (Operand.func 13), args := #[Operand.const (Value.int IntKind.u8 17)], argTypes := #[5] }, type := 4, pos := "law.go:21", after := #[{ on := 82, ground := Ground.chain }, { on := 82, ground := Ground.guard }], guard := some (82, true) }) al8_g83 (fun K hK => ?_) AllReadyH.nil)
  rw [if_pos (by rfl)]
  go_simp
  (go_at_call 13; refine (show Calls Tryd.prog 13 #[.int .u8 17] W8 fun e w' => e = .returned (.bool false) ∧ W8 = w' from plain_any 17 W8).mono ?_; rintro e w5 ⟨rfl, rfl⟩)
  go_wp2_with fail
  refine hK.out _ _ (AQ.s HAQ8.out) (fun hHeld => ?_)
  clear hK K
  try simp only [Act.put, List.setIfInBounds_toArray, List.set_cons_zero, List.set_cons_succ]
  refine wpAnyH_take (i := 84) (oi := { dst := some 130, op := Op.unOp UnOp.not 4 (Operand.tmp 129), type := 4, pos := "law.go:21", after := #[{ on := 83, ground := Ground.data }, { on := 82, ground := Ground.guard }], guard := some (82, true) }) (v := ?_) (listed := al8_l84) al8_g84 al8_nosel al8_f84 al8_r84 (fun _ _ _ h => h) (Or.inl ⟨by rfl, ?_⟩) (by assumption) ?_
  rotate_left
  focus (intro w hSw; (try dsimp only at hSw); go_simp; try (with_reducible rfl))
  try simp only [Act.put, List.setIfInBounds_toArray, List.set_cons_zero, List.set_cons_succ]
  refine wpAnyH_take (i := 85) (oi := { dst := some 131, op := Op.pick (Operand.tmp 128) (Operand.tmp 130) (Operand.const (Value.bool false)), type := 4, pos := "law.go:21", after := #[{ on := 82, ground := Ground.data }, { on := 84, ground := Ground.data }], guard := none }) (v := ?_) (listed := al8_l85) al8_g85 al8_nosel al8_f85 al8_r85 (fun _ _ _ h => h) (Or.inl ⟨by rfl, ?_⟩) (by assumption) ?_
  rotate_left
  focus (intro w hSw; (try dsimp only at hSw); go_simp; try (with_reducible rfl))
  try simp only [Act.put, List.setIfInBounds_toArray, List.set_cons_zero, List.set_cons_succ]
  refine wpAnyH_take (i := 86) (oi := { dst := some 0, op := Op.assign (Operand.tmp 131), type := 4, pos := "law.go:21", after := ([{ on := 85, ground := Ground.data }, { on := 83, ground := Ground.chain }, { on := 0, ground := Ground.phase }, { on := 1, ground := Ground.phase }, { on := 2, ground := Ground.phase }, { on := 3, ground := Ground.phase }, { on := 4, ground := Ground.phase }, { on := 5, ground := Ground.phase }, { on := 6, ground := Ground.phase }, { on := 7, ground := Ground.phase }, { on := 8, ground := Ground.phase }, { on := 9, ground := Ground.phase }, { on := 10, ground := Ground.phase }, { on := 11, ground := Ground.phase }, { on := 12, ground := Ground.phase }, { on := 13, ground := Ground.phase }, { on := 14, ground := Ground.phase }, { on := 15, ground := Ground.phase }, { on := 16, ground := Ground.phase }, { on := 17, ground := Ground.phase }, { on := 18, ground := Ground.phase }, { on := 19, ground := Ground.phase }, { on := 20, ground := Ground.phase }, { on := 21, ground := Ground.phase }, { on := 22, ground := Ground.phase }, { on := 23, ground := Ground.phase }, { on := 24, ground := Ground.phase }, { on := 25, ground := Ground.phase }, { on := 26, ground := Ground.phase }, { on := 27, ground := Ground.phase }, { on := 28, ground := Ground.phase }, { on := 29, ground := Ground.phase }, { on := 30, ground := Ground.phase }, { on := 31, ground := Ground.phase }, { on := 32, ground := Ground.phase }, { on := 33, ground := Ground.phase }, { on := 34, ground := Ground.phase }, { on := 35, ground := Ground.phase }, { on := 36, ground := Ground.phase }, { on := 37, ground := Ground.phase }, { on := 38, ground := Ground.phase }, { on := 39, ground := Ground.phase }, { on := 40, ground := Ground.phase }, { on := 41, ground := Ground.phase }].append [{ on := 42, ground := Ground.phase }, { on := 43, ground := Ground.phase }, { on := 44, ground := Ground.phase }, { on := 45, ground := Ground.phase }, { on := 46, ground := Ground.phase }, { on := 47, ground := Ground.phase }, { on := 48, ground := Ground.phase }, { on := 49, ground := Ground.phase }, { on := 50, ground := Ground.phase }, { on := 51, ground := Ground.phase }, { on := 52, ground := Ground.phase }, { on := 53, ground := Ground.phase }, { on := 54, ground := Ground.phase }, { on := 55, ground := Ground.phase }, { on := 56, ground := Ground.phase }, { on := 57, ground := Ground.phase }, { on := 58, ground := Ground.phase }, { on := 59, ground := Ground.phase }, { on := 60, ground := Ground.phase }, { on := 61, ground := Ground.phase }, { on := 62, ground := Ground.phase }, { on := 63, ground := Ground.phase }, { on := 64, ground := Ground.phase }, { on := 65, ground := Ground.phase }, { on := 66, ground := Ground.phase }, { on := 67, ground := Ground.phase }, { on := 68, ground := Ground.phase }, { on := 69, ground := Ground.phase }, { on := 70, ground := Ground.phase }, { on := 71, ground := Ground.phase }, { on := 72, ground := Ground.phase }, { on := 73, ground := Ground.phase }, { on := 74, ground := Ground.phase }, { on := 75, ground := Ground.phase }, { on := 76, ground := Ground.phase }, { on := 77, ground := Ground.phase }, { on := 78, ground := Ground.phase }, { on := 79, ground := Ground.phase }, { on := 80, ground := Ground.phase }, { on := 81, ground := Ground.phase }, { on := 82, ground := Ground.phase }, { on := 83, ground := Ground.phase }, { on := 84, ground := Ground.phase }, { on := 85, ground := Ground.phase }]).toArray, guard := none }) (v := ?_) (listed := al8_l86) al8_g86 al8_nosel al8_f86 al8_r86 (fun _ _ _ h => h) (Or.inl ⟨by rfl, ?_⟩) (by assumption) ?_
  rotate_left
  focus (intro w hSw; (try dsimp only at hSw); go_simp; try (with_reducible rfl))
  try simp only [Act.put, List.setIfInBounds_toArray, List.set_cons_zero]
  refine wpAnyH_done (listed := al8_l87) al8_end ?_ _
  go_wp2
  go_ret
  exact ⟨rfl, HAQ8.out.old⟩
end Go.Proofs.YtjeknociobbhpaaDoor.Ord
