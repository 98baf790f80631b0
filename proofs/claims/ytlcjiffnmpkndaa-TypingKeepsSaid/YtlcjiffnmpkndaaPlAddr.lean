/-
  Contracts of the functions of package addr that planes and fields lean on: how many cells a size has, the place that is so many further on, the places between two.
-/
import Derived.Test.YtlcjiffnmpkndaaBase
import Derived.RangeFuncNested
import Derived.RangeFuncBound
import Derived.RangeFuncCalls
import Derived.RangeFuncLeaves
import Derived.RangeFuncBox
import Derived.Shelf.Abstract
import Derived.Shelf.RegionOpen
import Derived.OwnWalkIn
import Derived.TacticsInMore
import Derived.LoopNIn
import Derived.LoopIn
import Derived.Maps.AppendAt
import Derived.Maps.OwnIn
namespace Go.Proofs.Ytlcjiffnmpkndaa.Pl
open Go.RowKit Go.Shelf Base
set_option linter.unusedVariables false
theorem tmod_cases (a n : Int) (hn : 0 < n) : a.tmod n = a % n ∨ (a < 0 ∧ a % n ≠ 0 ∧ a.tmod n = a % n - n) := by
  rw [Int.tmod_eq_emod]
  by_cases h : 0 ≤ a ∨ n ∣ a
  · left; rw [if_pos h]; omega
  · right; rw [if_neg h]
    refine ⟨by omega, fun h0 => h (Or.inr (Int.dvd_of_emod_eq_zero h0)), by omega⟩

/-- How many cells a size has. -/
def cells (r c : Int) : Int := if r < 1 ∨ 43 < r ∨ c < 1 ∨ 132 < c then 0 else if 4096 < r * c then 0 else r * c

set_option maxHeartbeats 400000 in
theorem inside_any (a m : Int) (w : World) :
    Calls Try.prog 111 #[.int .i64 a, .int .i64 m] w fun e w' => e = .returned (.bool (decide (0 ≤ a ∧ a < m))) ∧ w = w' := by
  by_cases h1 : 0 ≤ a <;> by_cases h2 : a < m <;>
  · go_enter Try.func111, Try.ntmps111
    go_wp2
    go_ret
    exact ⟨by simp [h1, h2], rfl⟩

set_option maxHeartbeats 400000 in
theorem cells_any (r c : Int) (w : World) :
    Calls Try.prog 97 #[.agg #[.int .i64 r, .int .i64 c]] w fun e w' => e = .returned (.int .i64 (cells r c)) ∧ Below w.heap.size w w' := by
  by_cases h1 : r < 1
  · go_enter Try.func97, Try.ntmps97
    go_wp2
    go_ret
    exact ⟨ret_int (by simp [cells, *]), (Below.refl _ _).alloc (Nat.le_refl _) _⟩
  by_cases h2 : 43 < r
  · go_enter Try.func97, Try.ntmps97
    go_wp2
    go_ret
    exact ⟨ret_int (by simp [cells, *]), (Below.refl _ _).alloc (Nat.le_refl _) _⟩
  by_cases h3 : c < 1
  · go_enter Try.func97, Try.ntmps97
    go_wp2
    go_ret
    exact ⟨ret_int (by simp [cells, *]), (Below.refl _ _).alloc (Nat.le_refl _) _⟩
  by_cases h4 : 132 < c
  · go_enter Try.func97, Try.ntmps97
    go_wp2
    go_ret
    exact ⟨ret_int (by simp [cells, *]), (Below.refl _ _).alloc (Nat.le_refl _) _⟩
  have p0 : 0 ≤ r * c := Int.mul_nonneg (by omega) (by omega)
  have p1 : r * c ≤ 5676 := by
    have a : r * c ≤ 43 * c := Int.mul_le_mul_of_nonneg_right (by omega) (by omega)
    omega
  by_cases h5 : 4096 < r * c
  · go_enter Try.func97, Try.ntmps97
    go_wp2
    go_ret
    exact ⟨ret_int (by rw [cells, if_neg (by omega), if_pos h5]), (Below.refl _ _).alloc (Nat.le_refl _) _⟩
  · go_enter Try.func97, Try.ntmps97
    go_wp2
    go_ret
    exact ⟨ret_int (by rw [cells, if_neg (by omega), if_neg (by omega)]), (Below.refl _ _).alloc (Nat.le_refl _) _⟩

set_option maxHeartbeats 400000 in
theorem rcells_any (r c : Int) (w : World) :
    Calls Try.prog 98 #[.agg #[.int .i64 r, .int .i64 c]] w fun e w' => e = .returned (.int .i64 (cells r c)) ∧ Below w.heap.size w w' := by
  by_cases h1 : r < 1
  · go_enter Try.func98, Try.ntmps98
    go_wp2
    go_ret
    exact ⟨ret_int (by simp [cells, *]), (Below.refl _ _).alloc (Nat.le_refl _) _⟩
  by_cases h2 : 43 < r
  · go_enter Try.func98, Try.ntmps98
    go_wp2
    go_ret
    exact ⟨ret_int (by simp [cells, *]), (Below.refl _ _).alloc (Nat.le_refl _) _⟩
  by_cases h3 : c < 1
  · go_enter Try.func98, Try.ntmps98
    go_wp2
    go_ret
    exact ⟨ret_int (by simp [cells, *]), (Below.refl _ _).alloc (Nat.le_refl _) _⟩
  by_cases h4 : 132 < c
  · go_enter Try.func98, Try.ntmps98
    go_wp2
    go_ret
    exact ⟨ret_int (by simp [cells, *]), (Below.refl _ _).alloc (Nat.le_refl _) _⟩
  have p0 : 0 ≤ r * c := Int.mul_nonneg (by omega) (by omega)
  have p1 : r * c ≤ 5676 := by
    have a : r * c ≤ 43 * c := Int.mul_le_mul_of_nonneg_right (by omega) (by omega)
    omega
  by_cases h5 : 4096 < r * c
  · go_enter Try.func98, Try.ntmps98
    go_wp2
    go_ret
    exact ⟨ret_int (by rw [cells, if_neg (by omega), if_pos h5]), (Below.refl _ _).alloc (Nat.le_refl _) _⟩
  · go_enter Try.func98, Try.ntmps98
    go_wp2
    go_ret
    exact ⟨ret_int (by rw [cells, if_neg (by omega), if_neg (by omega)]), (Below.refl _ _).alloc (Nat.le_refl _) _⟩

/-- The digit of a number from 0 to 63. -/
def dig (v : Int) : Int := if (1 ≤ v % 16 ∧ v % 16 ≤ 9 ∧ v ≠ 33) ∨ v = 48 then 192 + v else 64 + v

theorem inside_yes (a m : Int) (w : World) (h1 : 0 ≤ a) (h2 : a < m) :
    Calls Try.prog 111 #[.int .i64 a, .int .i64 m] w fun e w' => e = .returned (.bool true) ∧ w = w' :=
  (inside_any a m w).mono fun _ _ ⟨he, hw⟩ => ⟨he.trans (ret_bool (decide_eq_true ⟨h1, h2⟩)), hw⟩
theorem inside_no (a m : Int) (w : World) (h : a < 0 ∨ m ≤ a) :
    Calls Try.prog 111 #[.int .i64 a, .int .i64 m] w fun e w' => e = .returned (.bool false) ∧ w = w' :=
  (inside_any a m w).mono fun _ _ ⟨he, hw⟩ => ⟨he.trans (ret_bool (decide_eq_false (by omega))), hw⟩

theorem cells_bd (r c : Int) : 0 ≤ cells r c ∧ cells r c ≤ 4096 := by
  unfold cells
  by_cases h : r < 1 ∨ 43 < r ∨ c < 1 ∨ 132 < c
  · rw [if_pos h]; omega
  · rw [if_neg h]
    by_cases h5 : 4096 < r * c
    · rw [if_pos h5]; omega
    · rw [if_neg h5]
      have : 0 ≤ r * c := Int.mul_nonneg (by omega) (by omega)
      omega
theorem cells_pos (r c n : Int) (h : cells r c = n) (hn : n ≠ 0) : n = r * c ∧ 1 ≤ r ∧ r ≤ 43 ∧ 1 ≤ c ∧ c ≤ 132 := by
  unfold cells at h
  by_cases h' : r < 1 ∨ 43 < r ∨ c < 1 ∨ 132 < c
  · rw [if_pos h'] at h; omega
  · rw [if_neg h'] at h
    by_cases h5 : 4096 < r * c
    · rw [if_pos h5] at h; omega
    · rw [if_neg h5] at h; omega
theorem cells_is (r c n : Int) (w : World) (h : cells r c = n) :
    Calls Try.prog 97 #[.agg #[.int .i64 r, .int .i64 c]] w fun e w' => e = .returned (.int .i64 n) ∧ Below w.heap.size w w' := by
  subst h; exact cells_any r c w
theorem rcells_is (r c n : Int) (w : World) (h : cells r c = n) :
    Calls Try.prog 98 #[.agg #[.int .i64 r, .int .i64 c]] w fun e w' => e = .returned (.int .i64 n) ∧ Below w.heap.size w w' := by
  subst h; exact rcells_any r c w
theorem below_box {w w' : World} {o : Obj} (hb : Below (w.alloc o).heap.size (w.alloc o) w') : Below w.heap.size w w' :=
  ((Below.refl _ _).alloc (Nat.le_refl _) _).trans (hb.mono (by simp))
theorem box_at {w w' : World} {x y : Value} {t : TypeId} (hb : Below (w.alloc (.cells #[x, y] t)).heap.size (w.alloc (.cells #[x, y] t)) w') :
    w'.cell? ⟨w.heap.size, 0, none⟩ = some x ∧ w'.cell? ⟨w.heap.size, 1, none⟩ = some y :=
  ⟨(hb.cell (p := ⟨w.heap.size, 0, none⟩) (by simp)).trans (by simp [go_sem]), (hb.cell (p := ⟨w.heap.size, 1, none⟩) (by simp)).trans (by simp [go_sem])⟩

/-- A place that is so many further on, of so many. -/
def mv (n a b : Int) : Int := if n = 0 then 0 else (a + b) % n
theorem tmod_bd (a n : Int) (h : 1 ≤ n) : -n < a.tmod n ∧ a.tmod n < n ∧ (a.tmod n) % n = a % n := by
  have h1 : 0 ≤ a % n := Int.emod_nonneg _ (by omega)
  have h2 : a % n < n := Int.emod_lt_of_pos _ (by omega)
  rcases tmod_cases a n (by omega) with e | ⟨h0, hz, e⟩
  · rw [e]; exact ⟨by omega, h2, Int.emod_emod_of_dvd _ (Int.dvd_refl n)⟩
  · rw [e]; refine ⟨by omega, by omega, ?_⟩
    rw [Int.sub_emod_right]; exact Int.emod_emod_of_dvd _ (Int.dvd_refl n)
theorem move_num (a b n : Int) (h0 : 1 ≤ n) (h1 : n ≤ 4096) : (wrap64 (wrap64 (a.tmod n + b.tmod n) + 2 * n)).tmod n = mv n a b := by
  obtain ⟨a1, a2, a3⟩ := tmod_bd a n h0
  obtain ⟨b1, b2, b3⟩ := tmod_bd b n h0
  rw [IntWalk.wrap64_in (a.tmod n + b.tmod n) (by omega), IntWalk.wrap64_in _ (by omega), Int.tmod_eq_emod_of_nonneg (by omega), Int.add_mul_emod_self_right, Int.add_emod, a3, b3, ← Int.add_emod]
  unfold mv; rw [if_neg (by omega)]

set_option maxHeartbeats 400000 in
theorem move_any (r c a b n : Int) (w : World) (hn : Hid (cells r c = n)) (n0 : 0 ≤ n) (n1 : n ≤ 4096) :
    Calls Try.prog 69 #[.agg #[.int .i64 r, .int .i64 c], .int .i64 a, .int .i64 b] w fun e w' => e = .returned (.int .i64 (mv n a b)) ∧ Below w.heap.size w w' := by
  by_cases h : n = 0
  · subst h
    go_enter Try.func69, Try.ntmps69
    go_wp2_with (go_at_call 97; refine (cells_is _ _ _ _ hn.out).mono ?_; rintro e w' ⟨rfl, hb⟩)
    go_ret
    exact ⟨rfl, below_box hb⟩
  · have n2 : 1 ≤ n := by omega
    go_enter Try.func69, Try.ntmps69
    go_wp2_with (go_at_call 97; refine (cells_is _ _ _ _ hn.out).mono ?_; rintro e w' ⟨rfl, hb⟩)
    go_quiet (fail)
    go_wp2
    go_ret
    exact ⟨ret_int (move_num a b n n2 n1), below_drewN (below_box hb) _⟩

section
attribute [local go_sem] Oper.semAt_some
/-! ### The places, plainly -/
/-- How many places there are from a on up to b, going round. -/
def many (n a b : Int) : Nat := (if b - a ≤ 0 then b - a + n else b - a).toNat
/-- The place i further on. -/
def step (n a : Int) (i : Nat) : Int := (a + i) % n
/-- The first k places. -/
def first (n a : Int) (k : Nat) : List Int := (List.range k).map (step n a)
theorem first_zero (n a : Int) : first n a 0 = [] := rfl
theorem first_succ (n a : Int) (k : Nat) : first n a (k + 1) = first n a k ++ [step n a k] := by
  simp [first, List.range_succ]
theorem first_length (n a : Int) (k : Nat) : (first n a k).length = k := by simp [first]
theorem first_prefix (n a : Int) (k m : Nat) (h : k ≤ m) : first n a k = (first n a m).take k := by
  simp [first, ← List.map_take, List.take_range, Nat.min_eq_left h]
def inn (n a b : Int) : Bool := decide (0 ≤ a ∧ a < n ∧ 0 ≤ b ∧ b < n)
/-- All places from a on up to b (none, if one of them isn't there). -/
def betw (n a b : Int) : List Int := if inn n a b = true then first n a (many n a b) else []
theorem step_zero (n a : Int) (h0 : 0 ≤ a) (h1 : a < n) : step n a 0 = a := by
  unfold step; rw [Int.emod_eq_of_lt (by omega) (by omega)]; omega
theorem step_succ (n a : Int) (i : Nat) (h : n ≠ 0) : mv n (step n a i) 1 = step n a (i + 1) := by
  unfold mv step; rw [if_neg h, Int.emod_add_emod]; congr 1; omega
theorem step_bd (n a : Int) (i : Nat) (h : 0 < n) : 0 ≤ step n a i ∧ step n a i < n :=
  ⟨Int.emod_nonneg _ (by omega), Int.emod_lt_of_pos _ h⟩
theorem step_end (n a b : Int) (i : Nat) (hi : inn n a b = true) (h : i < many n a b) : (step n a (i + 1) = b) ↔ i + 1 = many n a b := by
  have hi' : 0 ≤ a ∧ a < n ∧ 0 ≤ b ∧ b < n := of_decide_eq_true hi
  unfold many at h ⊢
  unfold step
  by_cases hc : a + ((i + 1 : Nat) : Int) < n
  · rw [Int.emod_eq_of_lt (by omega) hc]
    by_cases hb : b - a ≤ 0
    · rw [if_pos hb] at h ⊢; omega
    · rw [if_neg hb] at h ⊢; omega
  · have : (a + ((i + 1 : Nat) : Int)) % n = a + ((i + 1 : Nat) : Int) - n := by
      rw [← Int.sub_emod_right, Int.emod_eq_of_lt]
      · omega
      · by_cases hb : b - a ≤ 0
        · rw [if_pos hb] at h; omega
        · rw [if_neg hb] at h; omega
    rw [this]
    by_cases hb : b - a ≤ 0
    · rw [if_pos hb] at h ⊢; omega
    · rw [if_neg hb] at h ⊢; omega
theorem many_bd (n a b : Int) (hi : inn n a b = true) : 1 ≤ many n a b ∧ (many n a b : Int) ≤ n := by
  have hi' : 0 ≤ a ∧ a < n ∧ 0 ≤ b ∧ b < n := of_decide_eq_true hi
  unfold many
  by_cases hb : b - a ≤ 0
  · rw [if_pos hb]; omega
  · rw [if_neg hb]; omega

theorem many_step (n a b : Int) (i : Nat) (hi : inn n a b = true) (h : i < many n a b) : many n (step n a i) b = many n a b - i := by
  have hi' : 0 ≤ a ∧ a < n ∧ 0 ≤ b ∧ b < n := of_decide_eq_true hi
  unfold many at h ⊢
  unfold step
  by_cases hc : a + (i : Int) < n
  · rw [Int.emod_eq_of_lt (by omega) hc]
    by_cases hb : b - a ≤ 0
    · rw [if_pos hb] at h ⊢
      rw [if_pos (by omega)]; omega
    · rw [if_neg hb] at h ⊢
      rw [if_neg (by omega)]; omega
  · have : (a + (i : Int)) % n = a + (i : Int) - n := by
      rw [← Int.sub_emod_right, Int.emod_eq_of_lt]
      · omega
      · by_cases hb : b - a ≤ 0
        · rw [if_pos hb] at h; omega
        · rw [if_neg hb] at h; omega
    rw [this]
    by_cases hb : b - a ≤ 0
    · rw [if_pos hb] at h ⊢
      rw [if_neg (by omega)]; omega
    · rw [if_neg hb] at h; omega

/-! ### The iterator in memory -/
def BetIter (N : Nat) (W : World) (bf bc bt bs : Nat) (a n b r c : Int) : Prop :=
  (bf < N ∧ bc < N ∧ bt < N ∧ bs < N) ∧ W.cell? ⟨bf, 0, none⟩ = some (.int .i64 a) ∧ W.cell? ⟨bc, 0, none⟩ = some (.int .i64 n) ∧ W.cell? ⟨bt, 0, none⟩ = some (.int .i64 b) ∧ W.cell? ⟨bs, 0, none⟩ = some (.int .i64 r) ∧ W.cell? ⟨bs, 1, none⟩ = some (.int .i64 c)
theorem BetIter.below {N : Nat} {A B : World} {bf bc bt bs : Nat} {a n b r c : Int} (h : BetIter N A bf bc bt bs a n b r c) (k : Below N A B) : BetIter N B bf bc bt bs a n b r c := by
  obtain ⟨⟨h1, h2, h3, h4⟩, c1, c2, c3, c4, c5⟩ := h
  exact ⟨⟨h1, h2, h3, h4⟩, (k.cell (p := ⟨bf, 0, none⟩) h1).trans c1, (k.cell (p := ⟨bc, 0, none⟩) h2).trans c2, (k.cell (p := ⟨bt, 0, none⟩) h3).trans c3, (k.cell (p := ⟨bs, 0, none⟩) h4).trans c4, (k.cell (p := ⟨bs, 1, none⟩) h4).trans c5⟩

/-- What a round must leave alone: the iterator's own four blocks. -/
def Keep4 (bf bc bt bs : Nat) (A B : World) : Prop := A.heap.size ≤ B.heap.size ∧ ∀ k, (k = bf ∨ k = bc ∨ k = bt ∨ k = bs) → B.heap[k]? = A.heap[k]?
theorem Keep4.refl (bf bc bt bs : Nat) (A : World) : Keep4 bf bc bt bs A A := ⟨Nat.le_refl _, fun _ _ => rfl⟩
theorem Keep4.trans {bf bc bt bs : Nat} {A B C : World} (h : Keep4 bf bc bt bs A B) (k : Keep4 bf bc bt bs B C) : Keep4 bf bc bt bs A C :=
  ⟨Nat.le_trans h.1 k.1, fun i hi => (k.2 i hi).trans (h.2 i hi)⟩
theorem Keep4.below {bf bc bt bs N : Nat} {A B : World} (h : bf < N ∧ bc < N ∧ bt < N ∧ bs < N) (k : Below N A B) : Keep4 bf bc bt bs A B :=
  ⟨k.size, fun i hi => k.block i (by rcases hi with rfl | rfl | rfl | rfl <;> omega)⟩
theorem BetIter.keep {N : Nat} {A B : World} {bf bc bt bs : Nat} {a n b r c : Int} (h : BetIter N A bf bc bt bs a n b r c) (k : Keep4 bf bc bt bs A B) : BetIter N B bf bc bt bs a n b r c := by
  obtain ⟨h0, c1, c2, c3, c4, c5⟩ := h
  exact ⟨h0, (World.cell?_of_block (a := ⟨bf, 0, none⟩) (k.2 bf (by simp))).trans c1, (World.cell?_of_block (a := ⟨bc, 0, none⟩) (k.2 bc (by simp))).trans c2, (World.cell?_of_block (a := ⟨bt, 0, none⟩) (k.2 bt (by simp))).trans c3, (World.cell?_of_block (a := ⟨bs, 0, none⟩) (k.2 bs (by simp))).trans c4, (World.cell?_of_block (a := ⟨bs, 1, none⟩) (k.2 bs (by simp))).trans c5⟩

def BetMade (w : World) (a n b r c : Int) (e : Ending) (w' : World) : Prop :=
  ∃ B, e = .returned (.func (.func 139) #[] #[.pointer (some ⟨w.heap.size + 1, 0, none⟩), .pointer (some ⟨B, 0, none⟩), .pointer (some ⟨w.heap.size + 2, 0, none⟩), .pointer (some ⟨w.heap.size, 0, none⟩)]) ∧
    BetIter w'.heap.size w' (w.heap.size + 1) B (w.heap.size + 2) w.heap.size a n b r c ∧ Below w.heap.size w w' ∧ w.heap.size ≤ B

theorem three_cells (w : World) (x y z u : Value) (t t2 t3 : TypeId) :
    ((((w.alloc (.cells #[x, y] t)).alloc (.cells #[z] t2)).alloc (.cells #[u] t3)).cell? ⟨w.heap.size, 0, none⟩ = some x) ∧
    ((((w.alloc (.cells #[x, y] t)).alloc (.cells #[z] t2)).alloc (.cells #[u] t3)).cell? ⟨w.heap.size, 1, none⟩ = some y) ∧
    ((((w.alloc (.cells #[x, y] t)).alloc (.cells #[z] t2)).alloc (.cells #[u] t3)).cell? ⟨w.heap.size + 1, 0, none⟩ = some z) ∧
    ((((w.alloc (.cells #[x, y] t)).alloc (.cells #[z] t2)).alloc (.cells #[u] t3)).cell? ⟨w.heap.size + 2, 0, none⟩ = some u) :=
  ⟨by simp [go_sem], by simp [go_sem], by simp [go_sem], by simp [go_sem]⟩

set_option maxHeartbeats 400000 in
theorem between_any (r c a b n : Int) (w : World) (hn : Hid (cells r c = n)) :
    Calls Try.prog 107 #[.agg #[.int .i64 r, .int .i64 c], .int .i64 a, .int .i64 b] w (BetMade w a n b r c) := by
  go_enter Try.func107, Try.ntmps107
  go_wp2_with (go_at_call 97; refine (cells_is _ _ _ _ hn.out).mono ?_; rintro e w' ⟨rfl, hb⟩)
  go_ret
  obtain ⟨c1, c2, c3, c4⟩ := three_cells w (.int .i64 r) (.int .i64 c) (.int .i64 a) (.int .i64 b) 23 3 3
  have hs := hb.size
  simp only [World.size_alloc] at hs
  have hb2 := hb.alloc hb.size (.cells #[.int .i64 n] 3)
  refine ⟨w'.heap.size, rfl, ⟨⟨by simp; omega, by simp, by simp; omega, by simp; omega⟩, ?_, ?_, ?_, ?_, ?_⟩, ?_, by omega⟩
  · exact (hb2.cell (p := ⟨w.heap.size + 1, 0, none⟩) (by simp)).trans c3
  · simp [go_sem]
  · exact (hb2.cell (p := ⟨w.heap.size + 2, 0, none⟩) (by simp)).trans c4
  · exact (hb2.cell (p := ⟨w.heap.size, 0, none⟩) (by simp; omega)).trans c1
  · exact (hb2.cell (p := ⟨w.heap.size, 1, none⟩) (by simp; omega)).trans c2
  · exact ((((Below.refl _ w).alloc (Nat.le_refl _) _).alloc (by simp) _).alloc (by simp; omega) _).trans (hb2.mono (by simp; omega))

theorem move_step (r c a n : Int) (i : Nat) (w : World) (hn : Hid (cells r c = n)) (n0 : 1 ≤ n) (n1 : n ≤ 4096) :
    Calls Try.prog 69 #[.agg #[.int .i64 r, .int .i64 c], .int .i64 (step n a i), .int .i64 1] w fun e w' => e = .returned (.int .i64 (step n a (i + 1))) ∧ Below w.heap.size w w' :=
  (move_any r c (step n a i) 1 n w hn (by omega) n1).mono fun _ _ ⟨he, hb⟩ => ⟨he.trans (ret_int (step_succ n a i (by omega))), hb⟩
theorem grown_of_below {W W' : World} (h : Below W.heap.size W W') : W.grownBy W' none := ⟨h.os, h.tape, h.output, h.size, fun k hk _ => h.block k hk⟩

set_option maxRecDepth 100000 in
set_option maxHeartbeats 1000000 in
/-- The iterator at a place that isn't there gives none. -/
theorem betw_none (m : Nat) (hm : 1 ≤ m) (l N bf bc bt bs : Nat) (a n b r c : Int) (hin : inn n a b = false) (J : List Int → World → Prop) (W : World) (hI : BetIter N W bf bc bt bs a n b r c) (h0 : J [] W) :
    CallsIn Fence.wide m Try.prog 139 #[.func (.yield l) #[] #[], .pointer (some ⟨bf, 0, none⟩), .pointer (some ⟨bc, 0, none⟩), .pointer (some ⟨bt, 0, none⟩), .pointer (some ⟨bs, 0, none⟩)] W fun e W' => (∃ v, e = .returned v) ∧ J [] W' := by
  obtain ⟨_, c1, c2, c3, c4, c5⟩ := hI
  refine callsIn_of_wp Try.func139 rfl trivial ?_ rfl
  simp only [Try.ntmps139, List.size_toArray, List.length_cons, List.length_nil, Nat.reduceAdd, Nat.reduceSub, Array.replicate_succ, Array.replicate_zero, List.push_toArray, List.append_toArray, List.nil_append, List.cons_append]
  by_cases h : 0 ≤ a ∧ a < n
  · have hb : b < 0 ∨ n ≤ b := by
      have := of_decide_eq_false hin
      omega
    obtain ⟨ha0, ha1⟩ := h
    gi_wp2_with (refine ⟨trivial, ?_⟩; gi_at_call 111; first | ((with_reducible refine (callsIn_wide.2 (inside_yes _ _ _ ha0 ha1)).mono ?_); rintro e w' ⟨rfl, rfl⟩) | ((with_reducible refine (callsIn_wide.2 (inside_no _ _ _ hb)).mono ?_); rintro e w' ⟨rfl, rfl⟩))
    refine bodyPost_ret (results_none rfl _ _ _) rfl ?_
    exact ⟨⟨_, rfl⟩, h0⟩
  · have ha : a < 0 ∨ n ≤ a := by omega
    gi_wp2_with (refine ⟨trivial, ?_⟩; gi_at_call 111; refine (callsIn_wide.2 (inside_no _ _ _ ha)).mono ?_; rintro e w' ⟨rfl, rfl⟩)
    refine ⟨trivial, ?_⟩
    gi_wp2
    refine bodyPost_ret (results_none rfl _ _ _) rfl ?_
    exact ⟨⟨_, rfl⟩, h0⟩

set_option maxRecDepth 100000 in
set_option maxHeartbeats 1000000 in
/-- The iterator at places that are there: all from a on up to b, or a first part, where a round has said so. -/
theorem betw_some (m : Nat) (hm : 1 ≤ m) (l N bf bc bt bs : Nat) (a n b r c : Int) (hin : inn n a b = true) (hn : Hid (cells r c = n)) (J Jx : List Int → World → Prop)
    (hY : ∀ pre x W, J pre W → pre.length < many n a b → YieldAt Fence.wide (m - 1) Try.prog l #[.int .i64 x] W fun e W' =>
      (e = .returned (.bool true) ∧ J (pre ++ [x]) W' ∧ Keep4 bf bc bt bs W W') ∨ (e = .returned (.bool false) ∧ Jx (pre ++ [x]) W'))
    (hJ : ∀ s W W', N ≤ W.heap.size → J s W → Below W.heap.size W W' → J s W')
    (W : World) (hNW : N ≤ W.heap.size) (hI : BetIter N W bf bc bt bs a n b r c) (h0 : J [] W) :
    CallsIn Fence.wide m Try.prog 139 #[.func (.yield l) #[] #[], .pointer (some ⟨bf, 0, none⟩), .pointer (some ⟨bc, 0, none⟩), .pointer (some ⟨bt, 0, none⟩), .pointer (some ⟨bs, 0, none⟩)] W fun e W' => (∃ v, e = .returned v) ∧
      ((∃ ys, ys = betw n a b ∧ J ys W') ∨ (∃ pre, pre <+: betw n a b ∧ Jx pre W')) := by
  have hI0 := hI
  obtain ⟨_, c1, c2, c3, c4, c5⟩ := hI
  have hin' : 0 ≤ a ∧ a < n ∧ 0 ≤ b ∧ b < n := of_decide_eq_true hin
  obtain ⟨ha0, ha1, hb0, hb1⟩ := hin'
  have HI := Lib.hid hI0
  clear hI0
  have n1 := (cells_bd r c).2
  rw [hn.out] at n1
  obtain ⟨M, hM⟩ : ∃ M, M = many n a b := ⟨_, rfl⟩
  have hmb := many_bd n a b hin
  have hB : betw n a b = first n a M := by rw [hM]; unfold betw; rw [if_pos hin]
  rw [← hM] at hY hmb
  obtain ⟨M1, M2⟩ := hmb
  have HM := Lib.hid hM
  have HB := Lib.hid hB
  have HIN := Lib.hid hin
  clear hM hB hin
  refine callsIn_of_wp Try.func139 rfl trivial ?_ rfl
  simp only [Try.ntmps139, List.size_toArray, List.length_cons, List.length_nil, Nat.reduceAdd, Nat.reduceSub, Array.replicate_succ, Array.replicate_zero, List.push_toArray, List.append_toArray, List.nil_append, List.cons_append]
  gi_wp2_with (refine ⟨trivial, ?_⟩; gi_at_call 111; first | ((with_reducible refine (callsIn_wide.2 (inside_yes _ _ _ ha0 ha1)).mono ?_); rintro e w' ⟨rfl, rfl⟩) | ((with_reducible refine (callsIn_wide.2 (inside_yes _ _ _ hb0 hb1)).mono ?_); rintro e w' ⟨rfl, rfl⟩))
  gi_loopw [6] (fun p wr => ∃ i : Nat, i < M ∧ p = .int .i64 (step n a i) ∧ J (first n a i) wr ∧ Keep4 bf bc bt bs W wr) (fun p _ => many n (intOf p) b)
  case atStart =>
    exact ⟨0, by omega, by rw [step_zero n a ha0 ha1], h0, Keep4.refl _ _ _ _ _⟩
  case round =>
    obtain ⟨i, hi, rfl, hJi, hBi⟩ := hrel
    have hlen := first_length n a i
    obtain ⟨fn, tmps, assign, body, hy, hR⟩ := hY (first n a i) (step n a i) wr hJi (by rw [hlen]; exact hi)
    clear hlen
    gi_wp2
    refine hR.mono ?_
    rintro e W3 (⟨rfl, hJ3, hk3⟩ | ⟨rfl, hJx3⟩)
    · have hI3 := HI.out.keep (hBi.trans hk3)
      have h4 := hI3.1
      obtain ⟨⟨_, _, hbt, _⟩, d1, d2, d3, d4, d5⟩ := hI3
      have hsz : N ≤ W3.heap.size := by have := hBi.1; have := hk3.1; omega
      by_cases he : step n a (i + 1) = b
      · have HE := Lib.hid he
        have het : (step n a (i + 1) == b) = true := by simpa using he
        clear he
        gi_wp2_with (refine ⟨trivial, ?_⟩; gi_at_call 69; refine (callsIn_wide.2 (move_step _ _ _ _ _ _ hn (by omega) (by omega))).mono ?_; rintro e w' ⟨rfl, hbm⟩; have d3' := (hbm.cell (p := ⟨bt, 0, none⟩) (Nat.lt_of_lt_of_le hbt hsz)).trans d3)
        refine bodyPost_ret (results_none rfl _ _ _) rfl ?_
        exact ⟨⟨_, rfl⟩, .inl ⟨_, rfl, by rw [HB.out, HM.out, ← (step_end n a b i HIN.out (by rw [← HM.out]; exact hi)).1 HE.out, first_succ]; exact hJ _ _ _ hsz hJ3 hbm⟩⟩
      · have HE := Lib.hid he
        have het : (step n a (i + 1) == b) = false := by simpa using he
        clear he
        gi_wp2_with (refine ⟨trivial, ?_⟩; gi_at_call 69; refine (callsIn_wide.2 (move_step _ _ _ _ _ _ hn (by omega) (by omega))).mono ?_; rintro e w' ⟨rfl, hbm⟩; have d3' := (hbm.cell (p := ⟨bt, 0, none⟩) (Nat.lt_of_lt_of_le hbt hsz)).trans d3)
        go_roundw
        case rel =>
          refine ⟨i + 1, ?_, rfl, by rw [first_succ]; exact hJ _ _ _ hsz hJ3 hbm, (hBi.trans hk3).trans (Keep4.below h4 (hbm.mono hsz))⟩
          have h1 : ¬ i + 1 = many n a b := fun h => HE.out ((step_end n a b i HIN.out (by rw [← HM.out]; exact hi)).2 h)
          rw [← HM.out] at h1
          omega
        case measure =>
          have h1 : ¬ i + 1 = many n a b := fun h => HE.out ((step_end n a b i HIN.out (by rw [← HM.out]; exact hi)).2 h)
          rw [HM.out] at hi
          simp only [intOf]
          rw [many_step n a b i HIN.out hi, many_step n a b (i + 1) HIN.out (by omega)]
          omega
    · gi_wp2
      go_end0
      exact ⟨⟨_, rfl⟩, .inr ⟨_, by rw [HB.out, ← first_succ, first_prefix n a (i+1) M (by omega)]; exact List.take_prefix _ _, hJx3⟩⟩

/-- The iterator's contract. -/
theorem betw_stops (m : Nat) (hm : 1 ≤ m) (bf bc bt bs : Nat) (a n b r c : Int) (hn : Hid (cells r c = n)) (w : World) (hI : BetIter w.heap.size w bf bc bt bs a n b r c) :
    SeqStopsK Fence.wide m Try.prog 139 #[.pointer (some ⟨bf, 0, none⟩), .pointer (some ⟨bc, 0, none⟩), .pointer (some ⟨bt, 0, none⟩), .pointer (some ⟨bs, 0, none⟩)] (fun x : Int => #[Value.int .i64 x]) (Keep4 bf bc bt bs) (fun ys => ys = betw n a b) (fun pre => pre <+: betw n a b) (many n a b) w := fun l J Jx W hW hJ hJx hY h0 => by
  cases hin : inn n a b with
  | false =>
    refine (betw_none m hm l w.heap.size bf bc bt bs a n b r c hin J W (hI.below hW) h0).mono ?_
    rintro e W' ⟨hv, hj⟩
    exact ⟨hv, .inl ⟨[], by unfold betw; rw [hin]; rfl, hj⟩⟩
  | true =>
    exact betw_some m hm l w.heap.size bf bc bt bs a n b r c hin hn J Jx hY (fun s X Y _ hs hb => hJ s X Y none hs (grown_of_below hb) (fun _ h => by cases h)) W hW.size (hI.below hW) h0

end
end Go.Proofs.Ytlcjiffnmpkndaa.Pl
