/-
  A plane in memory: its size, its cells, its cursor; contracts of what asks it and of what turns a cell or the cursor.
-/
import Derived.Test.YtlcjiffnmpkndaaPlRange
import Derived.Laws.OwnMore
import Derived.Laws.MakeOwn
namespace Go.Proofs.Ytlcjiffnmpkndaa.Pl
open Go.RowKit Base
set_option linter.unusedVariables false
set_option linter.unusedSimpArgs false

/-- A cell, plainly. -/
structure Cl where
  b : Int
  ge : Bool
  st : Bool
  li : Int
  co : Int
deriving DecidableEq
def Cl.arr (x : Cl) : Array Value := #[.int .u8 x.b, .bool x.ge, .bool x.st, .int .u8 x.li, .int .u8 x.co]
abbrev Cl.val (x : Cl) : Value := .agg #[.int .u8 x.b, .bool x.ge, .bool x.st, .int .u8 x.li, .int .u8 x.co]
def c0 : Cl := ⟨0, false, false, 0, 0⟩
def Cl.Ok (x : Cl) : Prop := (0 ≤ x.b ∧ x.b ≤ 255) ∧ (0 ≤ x.li ∧ x.li ≤ 255) ∧ (0 ≤ x.co ∧ x.co ≤ 255)
theorem c0_ok : c0.Ok := by simp [Cl.Ok, c0]
def flatC (L : List Cl) : List Value := L.flatMap fun x => [.int .u8 x.b, .bool x.ge, .bool x.st, .int .u8 x.li, .int .u8 x.co]
theorem flatC_length (L : List Cl) : (flatC L).length = L.length * 5 := by
  induction L with
  | nil => rfl
  | cons p ps ih => simp [flatC, List.flatMap_cons] at ih ⊢; omega
theorem flatC_get : ∀ (L : List Cl) (i : Nat) (x : Cl), L[i]? = some x → (flatC L)[i * 5]? = some (.int .u8 x.b) ∧ (flatC L)[i * 5 + 1]? = some (.bool x.ge) ∧ (flatC L)[i * 5 + 2]? = some (.bool x.st) ∧ (flatC L)[i * 5 + 3]? = some (.int .u8 x.li) ∧ (flatC L)[i * 5 + 4]? = some (.int .u8 x.co)
  | [], i, x, h => by simp at h
  | q :: P, 0, x, h => by
    obtain rfl : q = x := by simpa using h
    exact ⟨rfl, rfl, rfl, rfl, rfl⟩
  | q :: P, i + 1, x, h => by
    have := flatC_get P i x (by simpa using h)
    rw [show (i + 1) * 5 = i * 5 + 1 + 1 + 1 + 1 + 1 by omega]
    exact this
theorem flatC_set : ∀ (L : List Cl) (i : Nat) (x : Cl), (((((flatC L).set (i * 5) (.int .u8 x.b)).set (i * 5 + 1) (.bool x.ge)).set (i * 5 + 2) (.bool x.st)).set (i * 5 + 3) (.int .u8 x.li)).set (i * 5 + 4) (.int .u8 x.co) = flatC (L.set i x)
  | [], i, x => by simp [flatC]
  | q :: P, 0, x => by simp [flatC]
  | q :: P, i + 1, x => by
    have := flatC_set P i x
    rw [show (i + 1) * 5 = i * 5 + 1 + 1 + 1 + 1 + 1 by omega]
    simp only [flatC, List.flatMap_cons, List.cons_append, List.nil_append, List.set_cons_succ] at this ⊢
    rw [this]
theorem flatC_one (L : List Cl) : ∀ v ∈ flatC L, v.oneCell' = true := by
  intro v hv
  obtain ⟨p, _, h⟩ := List.mem_flatMap.1 hv
  simp at h
  rcases h with rfl | rfl | rfl | rfl | rfl <;> rfl
theorem flatC_append (L M : List Cl) : flatC (L ++ M) = flatC L ++ flatC M := by simp [flatC]
/-- The cell of a place. -/
def atL (L : List Cl) (i : Int) : Cl := if 0 ≤ i ∧ i < L.length then (L[i.toNat]?).getD c0 else c0
def setL (L : List Cl) (i : Int) (x : Cl) : List Cl := if 0 ≤ i ∧ i < L.length then L.set i.toNat x else L
theorem setL_length (L : List Cl) (i : Int) (x : Cl) : (setL L i x).length = L.length := by unfold setL; split <;> simp
def hasL (L : List Cl) (i : Int) : Bool := decide (0 ≤ i ∧ i < L.length)

/-- A plane lies in block b, its cells in block g. -/
structure PlAt (W : World) (b g : Nat) (r c cur : Int) (L : List Cl) : Prop where
  head : ∃ cap, W.heap[b]? = some (.cells #[.int .i64 r, .int .i64 c, .slice (some ⟨g, 0, none⟩) L.length cap, .int .i64 cur] 106 (0, 0)) ∧ W.ownsRow 0 58 5 (.slice (some ⟨g, 0, none⟩) L.length cap) L.length (flatC L)
  pos : 1 ≤ L.length
  most : L.length ≤ 4096
  size : cells r c = L.length
section
variable {W W' : World} {b g : Nat} {r c cur : Int} {L : List Cl}
theorem PlAt.lt (h : PlAt W b g r c cur L) : b < W.heap.size := by obtain ⟨⟨_, h, _⟩, _⟩ := h; exact lt_of_block h
theorem PlAt.ltg (h : PlAt W b g r c cur L) : g < W.heap.size := by obtain ⟨⟨_, _, h⟩, _⟩ := h; exact (h.lt g rfl).2
theorem own_block {e : TypeId} {n cap k : Nat} {xs : List Value} (h : W.ownsRow 0 e k (.slice (some ⟨g, 0, none⟩) n cap) n xs) : ∃ cur, W.heap[g]? = some (.cells cur e (0, 0)) := by
  rcases h.2 with ⟨h, _⟩ | ⟨g', cap', cur, h', _, hg, _⟩
  · cases h
  · cases h'
    exact ⟨cur, hg⟩
theorem PlAt.ne (h : PlAt W b g r c cur L) : b ≠ g := by
  obtain ⟨⟨cap, h1, h2⟩, _⟩ := h
  obtain ⟨cur, h3⟩ := own_block h2
  rintro rfl
  rw [h1] at h3
  cases h3
theorem PlAt.keep (h : PlAt W b g r c cur L) (hz : W.heap.size ≤ W'.heap.size) (hb : W'.heap[b]? = W.heap[b]?) (hg : W'.heap[g]? = W.heap[g]?) : PlAt W' b g r c cur L := by
  obtain ⟨⟨cap, h1, h2⟩, h3, h4, h5⟩ := h
  refine ⟨⟨cap, hb.trans h1, h2.1, ?_⟩, h3, h4, h5⟩
  rcases h2.2 with ⟨h, _⟩ | ⟨g', cap', cur, h', hb', hg', hrest⟩
  · cases h
  · cases h'
    exact .inr ⟨g, cap, cur, rfl, hb', hg.trans hg', hrest⟩
theorem PlAt.turn {S : Nat → Prop} (h : PlAt W b g r c cur L) (t : Turn S W W') (hb : ¬ S b) (hg : ¬ S g) : PlAt W' b g r c cur L :=
  h.keep t.size (t.block b h.lt hb) (t.block g h.ltg hg)
theorem PlAt.below (h : PlAt W b g r c cur L) (t : Below W.heap.size W W') : PlAt W' b g r c cur L := h.keep t.size (t.block b h.lt) (t.block g h.ltg)
theorem PlAt.low (h : PlAt W b g r c cur L) {B : Nat} (t : Below B W W') (hb : b < B) (hg : g < B) : PlAt W' b g r c cur L := h.keep t.size (t.block b hb) (t.block g hg)
abbrev PC (W : World) (b g : Nat) (r c cur : Int) (n cap : Nat) : Prop := W.cell? ⟨b, 0, none⟩ = some (.int .i64 r) ∧ W.cell? ⟨b, 1, none⟩ = some (.int .i64 c) ∧ W.cell? ⟨b, 2, none⟩ = some (.slice (some ⟨g, 0, none⟩) n cap) ∧ W.cell? ⟨b, 3, none⟩ = some (.int .i64 cur)
theorem PlAt.cells (h : PlAt W b g r c cur L) : ∃ cap, PC W b g r c cur L.length cap := by
  obtain ⟨⟨cap, h1, _⟩, _⟩ := h
  exact ⟨cap, by simp [World.cell?, h1], by simp [World.cell?, h1], by simp [World.cell?, h1], by simp [World.cell?, h1]⟩
theorem PlAt.frozen (h : PlAt W b g r c cur L) (o : Nat) : W.frozen? ⟨b, o, none⟩ = false := by
  obtain ⟨⟨cap, h1, _⟩, _⟩ := h
  simp [World.frozen?, h1]
theorem PlAt.frozenG (h : PlAt W b g r c cur L) (o : Nat) : W.frozen? ⟨g, o, none⟩ = false := by
  obtain ⟨⟨cap, _, h2⟩, _⟩ := h
  exact h2.frozenAt o
/-- The five cells of a place. -/
abbrev C5 (W : World) (g j : Nat) (x : Cl) : Prop := W.cell? ⟨g, j, none⟩ = some (.int .u8 x.b) ∧ W.cell? ⟨g, j + 1, none⟩ = some (.bool x.ge) ∧ W.cell? ⟨g, j + 2, none⟩ = some (.bool x.st) ∧ W.cell? ⟨g, j + 3, none⟩ = some (.int .u8 x.li) ∧ W.cell? ⟨g, j + 4, none⟩ = some (.int .u8 x.co)
theorem PlAt.five (h : PlAt W b g r c cur L) (i : Nat) (x : Cl) (hx : L[i]? = some x) : C5 W g (i * 5) x := by
  obtain ⟨⟨cap, _, h2⟩, _⟩ := h
  have hi : i < L.length := (List.getElem?_eq_some_iff.1 hx).1
  obtain ⟨f0, f1, f2, f3, f4⟩ := flatC_get L i x hx
  exact ⟨(h2.cellAt _ (by omega)).trans f0, (h2.cellAt _ (by omega)).trans f1, (h2.cellAt _ (by omega)).trans f2, (h2.cellAt _ (by omega)).trans f3, (h2.cellAt _ (by omega)).trans f4⟩

/-! ### What asks -/
theorem len_any (h : PlAt W b g r c cur L) : Calls Try.prog 39 #[.pointer (some ⟨b, 0, none⟩)] W fun e W' => e = .returned (.int .i64 L.length) ∧ W = W' := by
  obtain ⟨cap, p0, p1, p2, p3⟩ := h.cells
  obtain ⟨n, hn⟩ : ∃ n, n = L.length := ⟨_, rfl⟩
  rw [← hn] at p2 ⊢
  clear hn
  go_enter Try.func39, Try.ntmps39
  go_wp2
  go_ret
  exact ⟨rfl, rfl⟩
theorem cursor_any (h : PlAt W b g r c cur L) : Calls Try.prog 33 #[.pointer (some ⟨b, 0, none⟩)] W fun e W' => e = .returned (.int .i64 cur) ∧ W = W' := by
  obtain ⟨cap, p0, p1, p2, p3⟩ := h.cells
  go_enter Try.func33, Try.ntmps33
  go_wp2
  go_ret
  exact ⟨rfl, rfl⟩
theorem PlAt.alloc (h : PlAt W b g r c cur L) (o : Obj) : PlAt (W.alloc o) b g r c cur L := h.below (below_alloc W o)
theorem size_sz : (Try.prog.info? 23).map (·.size) = some 2 := by kernel_rfl
theorem size_cl : (Try.prog.info? 58).map (·.size) = some 5 := by kernel_rfl
theorem size_any (h : PlAt W b g r c cur L) : Calls Try.prog 68 #[.pointer (some ⟨b, 0, none⟩)] W fun e W' => e = .returned (.agg #[.int .i64 r, .int .i64 c]) ∧ Below W.heap.size W W' := by
  obtain ⟨cap, p0, p1, p2, p3⟩ := (h.alloc (.cells #[.int .i64 0, .int .i64 0] 23)).cells
  have hb := below_alloc W (.cells #[.int .i64 r, .int .i64 c] 23)
  have hn := heap_alloc_new W (.cells #[.int .i64 r, .int .i64 c] 23)
  go_enter Try.func68, Try.ntmps68
  go_wp2
  exact bodyPost_ret (results_cell_row rfl _ _ W.heap.size 23 _ (0, 0) _ rfl hn Try.underlying23 rfl size_sz) rfl ⟨rfl, hb⟩
theorem has_any (h : PlAt W b g r c cur L) (i : Int) : Calls Try.prog 79 #[.pointer (some ⟨b, 0, none⟩), .int .i64 i] W fun e W' => e = .returned (.bool (hasL L i)) ∧ W = W' := by
  unfold hasL
  by_cases h1 : 0 ≤ i
  · by_cases h2 : i < L.length
    · go_enter Try.func79, Try.ntmps79
      go_wp2_with (go_at_call 39; refine (len_any h).mono ?_; rintro e w' ⟨rfl, rfl⟩)
      go_ret
      exact ⟨by simp [h1, h2], rfl⟩
    · go_enter Try.func79, Try.ntmps79
      go_wp2_with (go_at_call 39; refine (len_any h).mono ?_; rintro e w' ⟨rfl, rfl⟩)
      go_ret
      exact ⟨ret_bool (by simp; omega), rfl⟩
  · go_enter Try.func79, Try.ntmps79
    go_wp2
    go_ret
    exact ⟨ret_bool (by simp; omega), rfl⟩
theorem put_zero (W : World) (x : Cl) : W.alloc (.cells x.arr 58) = W.alloc (.cells #[.int .u8 x.b, .bool x.ge, .bool x.st, .int .u8 x.li, .int .u8 x.co] 58) := rfl
theorem at_no (h : PlAt W b g r c cur L) (i : Int) (hi : hasL L i = false) : Calls Try.prog 40 #[.pointer (some ⟨b, 0, none⟩), .int .i64 i] W fun e W' => e = .returned c0.val ∧ Below W.heap.size W W' := by
  have hb := below_alloc W (.cells c0.arr 58)
  have hn := heap_alloc_new W (.cells c0.arr 58)
  go_enter Try.func40, Try.ntmps40
  go_wp2_with (go_at_call 79; refine (has_any (h.alloc _) i).mono ?_; rintro e w' ⟨rfl, rfl⟩; rw [hi])
  exact bodyPost_ret (results_cell_row rfl _ _ W.heap.size 58 _ (0, 0) _ rfl hn Try.underlying58 rfl size_cl) rfl ⟨rfl, hb⟩
theorem at_yes (h : PlAt W b g r c cur L) (i : Nat) (x : Cl) (hx : L[i]? = some x) : Calls Try.prog 40 #[.pointer (some ⟨b, 0, none⟩), .int .i64 i] W fun e W' => e = .returned x.val ∧ Below W.heap.size W W' := by
  have hb := below_alloc W (.cells x.arr 58)
  have hn := heap_alloc_new W (.cells x.arr 58)
  have hi : i < L.length := (List.getElem?_eq_some_iff.1 hx).1
  have h1 := h.alloc (.cells #[.int .u8 0, .bool false, .bool false, .int .u8 0, .int .u8 0] 58)
  obtain ⟨cap, p0, p1, p2, p3⟩ := h1.cells
  obtain ⟨q0, q1, q2, q3, q4⟩ := h1.five i x hx
  have hy : hasL L i = true := by simp [hasL]; omega
  have HH := Lib.hid h1
  have hm := h.most
  obtain ⟨n, hnn⟩ : ∃ n, n = L.length := ⟨_, rfl⟩
  rw [← hnn] at p2 hi hm
  have hin : (i : Int) < (n : Int) := by omega
  clear hnn h1 hx h
  go_enter Try.func40, Try.ntmps40
  go_wp2_with (go_at_call 79; refine (has_any HH.out i).mono ?_; rintro e w' ⟨rfl, rfl⟩; rw [hy])
  exact bodyPost_ret (results_cell_row rfl _ _ W.heap.size 58 _ (0, 0) _ rfl hn Try.underlying58 rfl size_cl) rfl ⟨rfl, hb⟩
theorem zero_eq (W : World) : W.alloc (.cells c0.arr 58) = W.alloc (.cells #[.int .u8 0, .bool false, .bool false, .int .u8 0, .int .u8 0] 58) := rfl
theorem atL_yes {i : Nat} {x : Cl} (hx : L[i]? = some x) : atL L i = x := by
  have hi : i < L.length := (List.getElem?_eq_some_iff.1 hx).1
  unfold atL
  rw [if_pos (by omega)]
  simp [hx]
theorem atL_no {i : Int} (h : hasL L i = false) : atL L i = c0 := by
  unfold atL; rw [if_neg (by simpa [hasL] using h)]
theorem has_get {i : Int} (h : hasL L i = true) : ∃ k x, i = (k : Nat) ∧ L[k]? = some x := by
  have h' := of_decide_eq_true h
  refine ⟨i.toNat, L[i.toNat]'(by omega), by omega, by simp⟩
theorem at_any (h : PlAt W b g r c cur L) (i : Int) : Calls Try.prog 40 #[.pointer (some ⟨b, 0, none⟩), .int .i64 i] W fun e W' => e = .returned (atL L i).val ∧ Below W.heap.size W W' := by
  cases hh : hasL L i with
  | false => rw [atL_no hh]; exact at_no h i hh
  | true =>
    obtain ⟨k, x, rfl, hx⟩ := has_get hh
    rw [atL_yes hx]
    exact at_yes h k x hx
/-! ### What turns -/
theorem PlAt.set (h : PlAt W b g r c cur L) (i : Nat) (x : Cl) (hi : i < L.length) :
    PlAt (((((W.setCell ⟨g, i * 5, none⟩ (.int .u8 x.b)).setCell ⟨g, i * 5 + 1, none⟩ (.bool x.ge)).setCell ⟨g, i * 5 + 2, none⟩ (.bool x.st)).setCell ⟨g, i * 5 + 3, none⟩ (.int .u8 x.li)).setCell ⟨g, i * 5 + 4, none⟩ (.int .u8 x.co)) b g r c cur (L.set i x) := by
  have hne := h.ne
  obtain ⟨⟨cap, h1, h2⟩, h3, h4, h5⟩ := h
  have s1 := (h2.stored (i * 5) (.int .u8 x.b)).1
  have s2 := (s1.stored (i * 5 + 1) (.bool x.ge)).1
  have s3 := (s2.stored (i * 5 + 2) (.bool x.st)).1
  have s4 := (s3.stored (i * 5 + 3) (.int .u8 x.li)).1
  have s5 := (s4.stored (i * 5 + 4) (.int .u8 x.co)).1
  rw [flatC_set] at s5
  refine ⟨⟨cap, ?_, ?_⟩, by simpa using h3, by simpa using h4, by simpa using h5⟩
  · rw [Below.heap_setCell _ _ _ _ hne, Below.heap_setCell _ _ _ _ hne, Below.heap_setCell _ _ _ _ hne, Below.heap_setCell _ _ _ _ hne, Below.heap_setCell _ _ _ _ hne, List.length_set]
    exact h1
  · rw [List.length_set]; exact s5
theorem PlAt.drew (h : PlAt W b g r c cur L) : PlAt W.drew b g r c cur L := h.keep (Nat.le_refl _) rfl rfl
theorem PlAt.drewN (h : PlAt W b g r c cur L) (n : Nat) : PlAt (W.drewN n) b g r c cur L := h.keep (Nat.le_refl _) rfl rfl
theorem turn5 (W : World) (g : Nat) (o1 o2 o3 o4 o5 : Nat) (x1 x2 x3 x4 x5 : Value) : Turn (At g) W (((((W.setCell ⟨g, o1, none⟩ x1).setCell ⟨g, o2, none⟩ x2).setCell ⟨g, o3, none⟩ x3).setCell ⟨g, o4, none⟩ x4).setCell ⟨g, o5, none⟩ x5) :=
  ((((turn_set W g o1 x1).trans (turn_set _ g o2 x2)).trans (turn_set _ g o3 x3)).trans (turn_set _ g o4 x4)).trans (turn_set _ g o5 x5)
theorem set_no (h : PlAt W b g r c cur L) (i : Int) (x : Cl) (hi : hasL L i = false) : Calls Try.prog 57 #[.pointer (some ⟨b, 0, none⟩), .int .i64 i, x.val] W fun e W' => e = .returned (.bool false) ∧ Below W.heap.size W W' := by
  have hb := below_alloc W (.cells x.arr 58)
  go_enter Try.func57, Try.ntmps57
  go_wp2_with (go_at_call 79; refine (has_any (h.alloc _) i).mono ?_; rintro e w' ⟨rfl, rfl⟩; rw [hi])
  go_ret
  exact ⟨rfl, hb⟩
theorem set_yes (h : PlAt W b g r c cur L) (i : Nat) (x : Cl) (hi : i < L.length) : Calls Try.prog 57 #[.pointer (some ⟨b, 0, none⟩), .int .i64 i, x.val] W fun e W' => e = .returned (.bool true) ∧ PlAt W' b g r c cur (L.set i x) ∧ Turn (At g) W W' := by
  have h1 := h.alloc (.cells #[.int .u8 x.b, .bool x.ge, .bool x.st, .int .u8 x.li, .int .u8 x.co] 58)
  have hb := below_alloc W (.cells #[.int .u8 x.b, .bool x.ge, .bool x.st, .int .u8 x.li, .int .u8 x.co] 58)
  have hn := heap_alloc_new W (.cells #[.int .u8 x.b, .bool x.ge, .bool x.st, .int .u8 x.li, .int .u8 x.co] 58)
  obtain ⟨cap, p0, p1, p2, p3⟩ := h1.cells
  obtain ⟨y, hy⟩ : ∃ y, L[i]? = some y := ⟨_, List.getElem?_eq_getElem hi⟩
  obtain ⟨q0, q1, q2, q3, q4⟩ := h1.five i y hy
  have fz := h1.frozenG
  have hS := h1.set i x hi
  have hy : hasL L i = true := by simp [hasL]; omega
  have HH := Lib.hid h1
  have HS := Lib.hid hS
  have HB := Lib.hid hb
  have hm := h.most
  obtain ⟨n, hnn⟩ : ∃ n, n = L.length := ⟨_, rfl⟩
  rw [← hnn] at p2 hi hm
  have hin : (i : Int) < (n : Int) := by omega
  clear hnn h1 h hS hb
  go_enter Try.func57, Try.ntmps57
  go_wp2_with (go_at_call 79; refine (has_any HH.out i).mono ?_; rintro e w' ⟨rfl, rfl⟩; rw [hy])
  go_region
  all_goals go_wp2
  all_goals go_ret
  all_goals exact ⟨rfl, PlAt.drew HS.out, ((Turn.of_below HB.out).trans (turn5 _ _ _ _ _ _ _ _ _ _ _ _)).drew⟩
theorem set_any (h : PlAt W b g r c cur L) (i : Int) (x : Cl) : Calls Try.prog 57 #[.pointer (some ⟨b, 0, none⟩), .int .i64 i, x.val] W fun e W' => e = .returned (.bool (hasL L i)) ∧ PlAt W' b g r c cur (setL L i x) ∧ Turn (At g) W W' := by
  cases hh : hasL L i with
  | false =>
    refine (set_no h i x hh).mono fun e W' ⟨he, hb⟩ => ⟨he, ?_, Turn.of_below hb⟩
    unfold setL; rw [if_neg (by simpa [hasL] using hh)]; exact h.below hb
  | true =>
    have hd := of_decide_eq_true hh
    obtain ⟨k, y, rfl, hx⟩ := has_get hh
    refine (set_yes h k x (by omega)).mono fun e W' ⟨he, hp, ht⟩ => ⟨he, ?_, ht⟩
    unfold setL; rw [if_pos hd]; exact hp
theorem PlAt.point (h : PlAt W b g r c cur L) (x : Int) : PlAt (W.setCell ⟨b, 3, none⟩ (.int .i64 x)) b g r c x L := by
  have hne := h.ne
  obtain ⟨⟨cap, h1, h2⟩, h3, h4, h5⟩ := h
  refine ⟨⟨cap, by simpa using heap_set h1 3 (.int .i64 x), ?_⟩, h3, h4, h5⟩
  exact h2.kept (row := some b) ⟨rfl, rfl, rfl, by simp, fun k _ hk => Below.heap_setCell _ _ _ _ (fun e => hk (by simp [e]))⟩ (.inr fun e => by cases e; exact hne rfl)
theorem point_any (h : PlAt W b g r c cur L) (i : Int) : Calls Try.prog 34 #[.pointer (some ⟨b, 0, none⟩), .int .i64 i] W fun e W' => e = .returned (.bool (hasL L i)) ∧ PlAt W' b g r c (if hasL L i then i else cur) L ∧ Turn (At b) W W' := by
  cases hh : hasL L i with
  | false =>
    have HH := Lib.hid h
    clear h
    go_enter Try.func34, Try.ntmps34
    go_wp2_with (go_at_call 79; refine (has_any HH.out i).mono ?_; rintro e w' ⟨rfl, rfl⟩; rw [hh])
    go_ret
    exact ⟨rfl, by simpa using HH.out, Turn.refl _ _⟩
  | true =>
    obtain ⟨cap, p0, p1, p2, p3⟩ := h.cells
    have fz := h.frozen 3
    have HH := Lib.hid h
    clear h
    go_enter Try.func34, Try.ntmps34
    go_wp2_with (go_at_call 79; refine (has_any HH.out i).mono ?_; rintro e w' ⟨rfl, rfl⟩; rw [hh])
    go_ret
    exact ⟨rfl, HH.out.point i, turn_set _ _ _ _⟩
end
end Go.Proofs.Ytlcjiffnmpkndaa.Pl
