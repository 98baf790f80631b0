/-
  The reference's queues: contract of its Pour.
-/
import Derived.Test.YtndhhpiklaffoaaMailRefB
namespace Go.Proofs.Ytndhhpiklaffoaa.Mail
open Go.RowKit
open Clock (heap_set)
set_option linter.unusedVariables false

/-- What Pour holds: both its arguments, its results' cells. -/
structure PB (s : Nat) (w : World) (u1 : Value) (r1 : Int) (b1 : Bool) (u2 : Value) (r2 : Int) (b2 : Bool) (W : World) : Prop where
  h0 : W.heap[s]? = some (.cells #[u1, .int .i64 r1, .bool b1] 29 (0, 0))
  h1 : W.heap[s + 1]? = some (.cells #[u2, .int .i64 r2, .bool b2] 29 (0, 0))
  h2 : W.heap[s + 1 + 1]? = some (.cells #[.slice none 0 0, .int .i64 0, .bool false] 29 (0, 0))
  h3 : W.heap[s + 1 + 1 + 1]? = some (.cells #[.slice none 0 0, .int .i64 0, .bool false] 29 (0, 0))
  old : Below s w W
section
variable {s : Nat} {w W W' : World} {u1 u2 : Value} {r1 r2 : Int} {b1 b2 : Bool}
theorem PB.lt (h : PB s w u1 r1 b1 u2 r2 b2 W) : s + 4 ≤ W.heap.size := by have := lt_of_block h.h3; omega
theorem PB.below (h : PB s w u1 r1 b1 u2 r2 b2 W) (u : Below W.heap.size W W') : PB s w u1 r1 b1 u2 r2 b2 W' :=
  have := h.lt
  ⟨(u.block s (by omega)).trans h.h0, (u.block _ (by omega)).trans h.h1, (u.block _ (by omega)).trans h.h2, (u.block _ (by omega)).trans h.h3, h.old.trans (u.mono (by omega))⟩
theorem PB.facts (h : PB s w u1 r1 b1 u2 r2 b2 W) :
    W.cell? ⟨s, 0, none⟩ = some u1 ∧ W.cell? ⟨s, 1, none⟩ = some (.int .i64 r1) ∧ W.cell? ⟨s, 2, none⟩ = some (.bool b1) ∧ W.cell? ⟨s + 1, 0, none⟩ = some u2 ∧ W.cell? ⟨s + 1, 1, none⟩ = some (.int .i64 r2) ∧ W.cell? ⟨s + 1, 2, none⟩ = some (.bool b2) ∧
    (∀ o, W.frozen? ⟨s, o, none⟩ = false) ∧ (∀ o, W.frozen? ⟨s + 1, o, none⟩ = false) :=
  ⟨by simp [World.cell?, h.h0], by simp [World.cell?, h.h0], by simp [World.cell?, h.h0], by simp [World.cell?, h.h1], by simp [World.cell?, h.h1], by simp [World.cell?, h.h1], fun o => by simp [World.frozen?, h.h0], fun o => by simp [World.frozen?, h.h1]⟩
theorem PB.res (h : PB s w u1 r1 b1 u2 r2 b2 W) :
    W.cell? ⟨s + 1 + 1, 0, none⟩ = some (.slice none 0 0) ∧ W.cell? ⟨s + 1 + 1, 1, none⟩ = some (.int .i64 0) ∧ W.cell? ⟨s + 1 + 1, 2, none⟩ = some (.bool false) ∧ W.cell? ⟨s + 1 + 1 + 1, 0, none⟩ = some (.slice none 0 0) ∧ W.cell? ⟨s + 1 + 1 + 1, 1, none⟩ = some (.int .i64 0) ∧ W.cell? ⟨s + 1 + 1 + 1, 2, none⟩ = some (.bool false) ∧
    (∀ o, W.frozen? ⟨s + 1 + 1, o, none⟩ = false) ∧ (∀ o, W.frozen? ⟨s + 1 + 1 + 1, o, none⟩ = false) :=
  ⟨by simp [World.cell?, h.h2], by simp [World.cell?, h.h2], by simp [World.cell?, h.h2], by simp [World.cell?, h.h3], by simp [World.cell?, h.h3], by simp [World.cell?, h.h3], fun o => by simp [World.frozen?, h.h2], fun o => by simp [World.frozen?, h.h3]⟩
end
theorem pb_new {s : Nat} {w W : World} (u1 : Value) (r1 : Int) (b1 : Bool) (u2 : Value) (r2 : Int) (b2 : Bool) (hs : s = w.heap.size)
    (hW : W = (((w.alloc (.cells #[u1, .int .i64 r1, .bool b1] 29)).alloc (.cells #[u2, .int .i64 r2, .bool b2] 29)).alloc (.cells #[.slice none 0 0, .int .i64 0, .bool false] 29)).alloc (.cells #[.slice none 0 0, .int .i64 0, .bool false] 29)) :
    PB s w u1 r1 b1 u2 r2 b2 W := by
  obtain ⟨e1, e2, e3, e4⟩ := heap_four w (.cells #[u1, .int .i64 r1, .bool b1] 29) (.cells #[u2, .int .i64 r2, .bool b2] 29) (.cells #[.slice none 0 0, .int .i64 0, .bool false] 29) (.cells #[.slice none 0 0, .int .i64 0, .bool false] 29)
  subst hs hW
  refine ⟨e1, e2, e3, e4, ?_⟩
  exact ((((Below.refl _ w).alloc (Nat.le_refl _) _).alloc (by simp) _).alloc (by simp; omega) _).alloc (by simp; omega) _
/-- Blocks of S that are none of Pour's four. -/
def Off (S : Nat → Prop) (s : Nat) (b : Nat) : Prop := S b ∧ (b < s ∨ s + 4 ≤ b)
section
variable {S T : Nat → Prop} {w w' : World} {u : Value} {xs : List Int}
theorem RowFrom.imp (h : RowFrom S w u xs) (hT : ∀ b, b < w.heap.size → S b → T b) : RowFrom T w u xs := by
  obtain ⟨a, cap, rfl, h1, h2, h0, h3⟩ := h
  refine ⟨a, cap, rfl, h1, h2, h0, fun hne => ?_⟩
  obtain ⟨g, off, rfl, hg, hb, hc⟩ := h3 hne
  have h0 : 0 < xs.length := List.length_pos_iff.2 hne
  exact ⟨g, off, rfl, hT g (World.block_lt_of_cell? w _ (hc 0 h0)) hg, hb, hc⟩
theorem RowFrom.keep (h : RowFrom S w u xs) (hk : ∀ b, S b → b < w.heap.size → w'.heap[b]? = w.heap[b]?) : RowFrom S w' u xs := by
  obtain ⟨a, cap, rfl, h1, h2, h0, h3⟩ := h
  refine ⟨a, cap, rfl, h1, h2, h0, fun hne => ?_⟩
  obtain ⟨g, off, rfl, hg, ⟨cs, fz, hb⟩, hc⟩ := h3 hne
  refine ⟨g, off, rfl, hg, ⟨cs, fz, (hk g hg (lt_of_block hb)).trans hb⟩, fun i hi => ?_⟩
  have := hc i hi
  have hl := World.block_lt_of_cell? w _ this
  simp only [World.cell?, hk g hg hl] at this ⊢
  exact this
theorem RowFrom.setCell (h : RowFrom S w u xs) (k o : Nat) (x : Value) (hk : ¬ S k) : RowFrom S (w.setCell ⟨k, o, none⟩ x) u xs :=
  h.keep fun b hb _ => Below.heap_setCell _ _ _ _ (by show b ≠ k; intro e; exact hk (e ▸ hb))
/-- A block of another type is stored into. -/
theorem RowFrom.other {k : Nat} {cs : Array Value} {ty : TypeId} {fz : Nat × Nat} (h : RowFrom S w u xs) (hk : w.heap[k]? = some (.cells cs ty fz)) (hty : ty ≠ 3) (o : Nat) (x : Value) : RowFrom S (w.setCell ⟨k, o, none⟩ x) u xs := by
  obtain ⟨a, cap, rfl, h1, h2, h0, h3⟩ := h
  refine ⟨a, cap, rfl, h1, h2, h0, fun hne => ?_⟩
  obtain ⟨g, off, rfl, hg, ⟨cs', fz', hb⟩, hc⟩ := h3 hne
  have hgk : g ≠ k := by
    intro e
    rw [e, hk] at hb
    injection hb with hb
    injection hb with _ e2 _
    exact hty e2
  have hkeep : (w.setCell ⟨k, o, none⟩ x).heap[g]? = w.heap[g]? := Below.heap_setCell _ _ _ _ hgk
  refine ⟨g, off, rfl, hg, ⟨cs', fz', hkeep.trans hb⟩, fun i hi => ?_⟩
  have := hc i hi
  simp only [World.cell?, hkeep] at this ⊢
  exact this
/-- A row without its first. -/
theorem RowFrom.tail {n cap : Nat} {a : Option Addr} {x : Int} (h : RowFrom S w (.slice a (n + 1) cap) (x :: xs)) :
    ∃ g off, a = some ⟨g, off, none⟩ ∧ g < w.heap.size ∧ w.cell? ⟨g, off, none⟩ = some (.int .i64 x) ∧
      (cap = 1 ∧ n = 0 ∧ RowFrom S w (.slice (some ⟨g, off, none⟩) 0 0) xs ∨ ∃ c, cap = c + 2 ∧ n ≤ c + 1 ∧ c + 2 ≤ maxLen ∧ RowFrom S w (.slice (some ⟨g, off + 1, none⟩) n (c + 1)) xs) := by
  obtain ⟨a', cap', he, hc, hm, _, hr⟩ := h
  obtain ⟨g, off, ha, hg, hb, hcell⟩ := hr (by simp)
  injection he with e1 e2 e3
  subst e1 e3 ha
  have hn : n = xs.length := by simpa using e2
  have hx : w.cell? ⟨g, off, none⟩ = some (.int .i64 x) := by simpa using hcell 0 (by simp)
  refine ⟨g, off, rfl, World.block_lt_of_cell? w _ hx, hx, ?_⟩
  simp only [List.length_cons] at hc
  rcases Nat.lt_or_ge 1 cap with h | h
  · refine .inr ⟨cap - 2, by omega, by omega, by omega, _, cap - 2 + 1, by rw [hn], by omega, by omega, fun h => by simp at h, fun _ => ⟨g, off + 1, rfl, hg, hb, fun i hi => ?_⟩⟩
    have h1 := hcell (i + 1) (by simpa using hi)
    rw [show off + 1 + i = off + (i + 1) by omega]
    simpa using h1
  · have h0 : xs = [] := List.eq_nil_of_length_eq_zero (by omega)
    subst h0
    exact .inl ⟨by omega, by simpa using hn, _, 0, rfl, Nat.le_refl _, by simp [maxLen], fun _ => rfl, fun h => absurd rfl h⟩
end
section
variable {s : Nat} {w W : World} {u1 u2 v : Value} {r1 r2 : Int} {b1 b2 : Bool}
theorem PB.put0 (h : PB s w u1 r1 b1 u2 r2 b2 W) (v : Value) : PB s w v r1 b1 u2 r2 b2 (W.setCell ⟨s, 0, none⟩ v) :=
  ⟨heap_set h.h0 0 v, (Below.heap_setCell _ _ _ _ (by show s + 1 ≠ s; omega)).trans h.h1, (Below.heap_setCell _ _ _ _ (by show s + 2 ≠ s; omega)).trans h.h2, (Below.heap_setCell _ _ _ _ (by show s + 3 ≠ s; omega)).trans h.h3, h.old.setCell (Nat.le_refl _) _⟩
theorem PB.put1 (h : PB s w u1 r1 b1 u2 r2 b2 W) (v : Value) : PB s w u1 r1 b1 v r2 b2 (((W.setCell ⟨s + 1, 0, none⟩ v).setCell ⟨s + 1, 1, none⟩ (.int .i64 r2)).setCell ⟨s + 1, 2, none⟩ (.bool b2)) := by
  have k : ∀ (b : Nat), b ≠ s + 1 → (((W.setCell ⟨s + 1, 0, none⟩ v).setCell ⟨s + 1, 1, none⟩ (.int .i64 r2)).setCell ⟨s + 1, 2, none⟩ (.bool b2)).heap[b]? = W.heap[b]? := fun b hb => by
    rw [Below.heap_setCell _ _ _ _ (by exact hb), Below.heap_setCell _ _ _ _ (by exact hb), Below.heap_setCell _ _ _ _ (by exact hb)]
  refine ⟨(k s (by omega)).trans h.h0, heap_set (heap_set (heap_set h.h1 0 v) 1 _) 2 _, (k _ (by omega)).trans h.h2, (k _ (by omega)).trans h.h3, ?_⟩
  exact ((h.old.setCell (by show s ≤ s + 1; omega) _).setCell (by show s ≤ s + 1; omega) _).setCell (by show s ≤ s + 1; omega) _
end
/-- Both results stored. -/
def fin6 (s : Nat) (u1 : Value) (r1 : Int) (b1 : Bool) (u2 : Value) (r2 : Int) (b2 : Bool) (W : World) : World :=
  (((((W.setCell ⟨s + 1 + 1, 0, none⟩ u1).setCell ⟨s + 1 + 1, 1, none⟩ (.int .i64 r1)).setCell ⟨s + 1 + 1, 2, none⟩ (.bool b1)).setCell ⟨s + 1 + 1 + 1, 0, none⟩ u2).setCell ⟨s + 1 + 1 + 1, 1, none⟩ (.int .i64 r2)).setCell ⟨s + 1 + 1 + 1, 2, none⟩ (.bool b2)
theorem PB.fin {s : Nat} {w W : World} {u1 u2 : Value} {r1 r2 : Int} {b1 b2 : Bool} (h : PB s w u1 r1 b1 u2 r2 b2 W) :
    (fin6 s u1 r1 b1 u2 r2 b2 W).heap[s + 1 + 1]? = some (.cells #[u1, .int .i64 r1, .bool b1] 29 (0, 0)) ∧ (fin6 s u1 r1 b1 u2 r2 b2 W).heap[s + 1 + 1 + 1]? = some (.cells #[u2, .int .i64 r2, .bool b2] 29 (0, 0)) ∧
    Below s w (fin6 s u1 r1 b1 u2 r2 b2 W) ∧ ∀ b, (b < s ∨ s + 4 ≤ b) → (fin6 s u1 r1 b1 u2 r2 b2 W).heap[b]? = W.heap[b]? := by
  have e0 := heap_set (heap_set (heap_set h.h2 0 u1) 1 (.int .i64 r1)) 2 (.bool b1)
  have e1 : (((W.setCell ⟨s + 1 + 1, 0, none⟩ u1).setCell ⟨s + 1 + 1, 1, none⟩ (.int .i64 r1)).setCell ⟨s + 1 + 1, 2, none⟩ (.bool b1)).heap[s + 1 + 1 + 1]? = some (.cells #[.slice none 0 0, .int .i64 0, .bool false] 29 (0, 0)) := by
    rw [Below.heap_setCell _ _ _ _ (by show s + 1 + 1 + 1 ≠ s + 1 + 1; omega), Below.heap_setCell _ _ _ _ (by show s + 1 + 1 + 1 ≠ s + 1 + 1; omega), Below.heap_setCell _ _ _ _ (by show s + 1 + 1 + 1 ≠ s + 1 + 1; omega)]
    exact h.h3
  unfold fin6
  refine ⟨?_, heap_set (heap_set (heap_set e1 0 u2) 1 (.int .i64 r2)) 2 (.bool b2), ?_, fun b hb => ?_⟩
  · rw [Below.heap_setCell _ _ _ _ (by show s + 1 + 1 ≠ s + 1 + 1 + 1; omega), Below.heap_setCell _ _ _ _ (by show s + 1 + 1 ≠ s + 1 + 1 + 1; omega), Below.heap_setCell _ _ _ _ (by show s + 1 + 1 ≠ s + 1 + 1 + 1; omega)]
    exact e0
  · exact (((((h.old.setCell (by show s ≤ s + 1 + 1; omega) _).setCell (by show s ≤ s + 1 + 1; omega) _).setCell (by show s ≤ s + 1 + 1; omega) _).setCell (by show s ≤ s + 1 + 1 + 1; omega) _).setCell (by show s ≤ s + 1 + 1 + 1; omega) _).setCell (by show s ≤ s + 1 + 1 + 1; omega) _
  · rw [Below.heap_setCell _ _ _ _ (by show b ≠ s + 1 + 1 + 1; omega), Below.heap_setCell _ _ _ _ (by show b ≠ s + 1 + 1 + 1; omega), Below.heap_setCell _ _ _ _ (by show b ≠ s + 1 + 1 + 1; omega), Below.heap_setCell _ _ _ _ (by show b ≠ s + 1 + 1; omega), Below.heap_setCell _ _ _ _ (by show b ≠ s + 1 + 1; omega), Below.heap_setCell _ _ _ _ (by show b ≠ s + 1 + 1; omega)]
theorem pourN_lt {r2 k : Nat} {b2 : Bool} {xs ys : List Int} (h : k < pourN r2 b2 xs ys) : b2 = false ∧ k < xs.length ∧ ys.length + k < r2 := by
  unfold pourN at h
  cases b2 with
  | true => simp at h
  | false => simp at h; exact ⟨rfl, by omega, by omega⟩
theorem pourN_end {r2 k : Nat} {b2 : Bool} {xs ys : List Int} (hk : k ≤ pourN r2 b2 xs ys) (h : ¬ k < pourN r2 b2 xs ys) (hy : ys.length ≤ r2) : k ≤ xs.length ∧ (k = xs.length ∨ (k < xs.length ∧ (if b2 then (0 : Int) else (r2 : Int) - (ys ++ xs.take k).length) ≤ 0)) := by
  unfold pourN at hk h
  cases b2 with
  | true => simp at hk h; subst hk; simp; omega
  | false =>
    rw [if_neg (by simp)] at hk h
    refine ⟨by omega, ?_⟩
    rcases Nat.lt_or_ge k xs.length with h1 | h1
    · refine .inr ⟨h1, ?_⟩
      rw [if_neg (by simp), List.length_append, List.length_take]
      omega
    · exact .inl (by omega)
def RPourRel (S : Nat → Prop) (s N : Nat) (w : World) (xs ys : List Int) (r1 : Int) (b1 : Bool) (r2 : Int) (b2 : Bool) (i : Value) (wr : World) : Prop :=
  ∃ (k : Nat) (u1 u2 : Value), k ≤ N ∧ i = .int .i64 k ∧ PB s w u1 r1 b1 u2 r2 b2 wr ∧ RowFrom (Off S s) wr u1 (xs.drop k) ∧ RowFrom (Off S s) wr u2 (ys ++ xs.take k)
set_option maxRecDepth 100000 in
set_option maxHeartbeats 2000000 in
theorem rpour_any (S : Nat → Prop) (r1 r2 : Nat) (xs ys : List Int) (b1 b2 : Bool) (u1 u2 : Value) (w : World) (h1 : RowFrom S w u1 xs) (h2 : RowFrom S w u2 ys) (hr2 : r2 ≤ 1024) (hx : xs.length ≤ 1024) (hy : ys.length ≤ r2) (hS : ∀ b, w.heap.size ≤ b → S b) :
    Calls Try.prog 43 #[.agg #[u1, .int .i64 r1, .bool b1], .agg #[u2, .int .i64 r2, .bool b2]] w fun e w' => ∃ v1 v2, e = .returned (.tuple #[.agg #[v1, .int .i64 r1, .bool b1], .agg #[v2, .int .i64 r2, .bool b2], .int .i64 (pourN r2 b2 xs ys)]) ∧
      RowFrom S w' v1 (xs.drop (pourN r2 b2 xs ys)) ∧ RowFrom S w' v2 (ys ++ xs.take (pourN r2 b2 xs ys)) ∧ Below w.heap.size w w' := by
  have hz := (zero_of_info info_rq).1
  obtain ⟨N, hN⟩ : ∃ N, N = pourN r2 b2 xs ys := ⟨_, rfl⟩
  have HNN := Lib.hid hN
  obtain ⟨s, hs⟩ : ∃ s, s = w.heap.size := ⟨_, rfl⟩
  have HS := Lib.hid hs
  have HSS := Lib.hid hS
  have g1 := h1.imp (T := Off S s) fun b hb h => ⟨h, .inl (by omega)⟩
  have g2 := h2.imp (T := Off S s) fun b hb h => ⟨h, .inl (by omega)⟩
  obtain ⟨W0, hW⟩ : ∃ W, W = (((w.alloc (.cells #[u1, .int .i64 r1, .bool b1] 29)).alloc (.cells #[u2, .int .i64 r2, .bool b2] 29)).alloc (.cells #[.slice none 0 0, .int .i64 0, .bool false] 29)).alloc (.cells #[.slice none 0 0, .int .i64 0, .bool false] 29) := ⟨_, rfl⟩
  have P0 := pb_new u1 r1 b1 u2 r2 b2 hs hW
  have HP0 := Lib.hid P0
  have HG1 := Lib.hid (g1.below (by rw [← hs]; exact P0.old))
  have HG2 := Lib.hid (g2.below (by rw [← hs]; exact P0.old))
  have HW := Lib.hid hW
  rw [← hN]
  obtain ⟨a1, c1, rfl, _⟩ := h1
  obtain ⟨a2, c2, rfl, _⟩ := h2
  clear g1 g2 P0 hW hN hs hS
  go_enter Try.func43, Try.ntmps43
  go_wp2_with fail
  rw [← HW.out, ← HS.out]
  go_loopw [7] (fun i wr => RPourRel S s N w xs ys r1 b1 r2 b2 i wr) (fun i _ => N - (intOf i).toNat)
  case atStart => exact ⟨0, _, _, by omega, rfl, HP0.out, by simpa using HG1.out, by simpa using HG2.out⟩
  case round =>
    obtain ⟨k, u1, u2, hk, rfl, P, R1, R2⟩ := hrel
    have HP := Lib.hid P
    have HR1 := Lib.hid R1
    have HR2 := Lib.hid R2
    clear P R1 R2 HP0 HG1 HG2
    by_cases hkN : k < N
    · obtain ⟨rfl, hkx, hky⟩ := pourN_lt (by rw [← HNN.out]; exact hkN)
      obtain ⟨x, xs', hd⟩ : ∃ x xs', xs.drop k = x :: xs' := ⟨xs[k], xs.drop (k + 1), List.drop_eq_getElem_cons hkx⟩
      have hd2 : xs.drop (k + 1) = xs' := by
        have : (xs.drop k).tail = xs' := by rw [hd]; rfl
        rw [← this, List.tail_drop]
      have htk : xs.take (k + 1) = xs.take k ++ [x] := by
        have : xs[k] = x := by
          have := List.drop_eq_getElem_cons hkx
          rw [hd] at this
          exact (List.cons.inj this).1.symm
        rw [List.take_succ_eq_append_getElem hkx, this]
      obtain ⟨va, vc, hu1, _⟩ := HR1.out
      rw [hd] at hu1 HR1
      obtain ⟨n, hn⟩ : ∃ n, n = xs'.length := ⟨_, rfl⟩
      rw [List.length_cons, ← hn] at hu1
      subst hu1
      obtain ⟨g, off, rfl, hgw, hcell, htail⟩ := HR1.out.tail
      obtain ⟨wa, wc, hu2, hu2c⟩ := HR2.out
      obtain ⟨m, hm⟩ : ∃ m, m = (ys ++ xs.take k).length := ⟨_, rfl⟩
      have hmr : m < r2 := by rw [hm, List.length_append, List.length_take]; omega
      rw [← hm] at hu2
      subst hu2
      have HD2 := Lib.hid hd2
      have HTK := Lib.hid htk
      have HM := Lib.hid hm
      have hroom := rroom_any r2 (.slice wa m wc) false (ys ++ xs.take k) (Off S s) wr HR2.out (by omega) (by omega)
      rw [← hm] at hroom
      have hpos : 0 < (r2 : Int) - m := by omega
      have HROOM := Lib.hid hroom
      obtain ⟨b00, b01, b02, b10, b11, b12, fb0, fb1⟩ := HP.out.facts
      clear hd hd2 htk hn hu2c hm hroom
      rcases htail with ⟨rfl, rfl, ht⟩ | ⟨c, rfl, hnc, hcm, ht⟩
      case' inl => obtain ⟨v3, hv3⟩ : ∃ v3 : Value, v3 = .slice (some ⟨g, off, none⟩) 0 0 := ⟨_, rfl⟩
      case' inr => obtain ⟨v3, hv3⟩ : ∃ v3 : Value, v3 = .slice (some ⟨g, off + 1, none⟩) n (c + 1) := ⟨_, rfl⟩
      all_goals
        rw [← hv3] at ht
        have HV3 := Lib.hid hv3
        have HT := Lib.hid ht
        clear ht hv3
        go_wp2_with fail
        refine HROOM.out.mono ?_
        rintro e w2 ⟨rfl, U2⟩
        have P2 := HP.out.below U2
        obtain ⟨b00, b01, b02, b10, b11, b12, fb0, fb1⟩ := P2.facts
        have hcell2 := (U2.cell (p := ⟨g, off, none⟩) hgw).trans hcell
        have HU2 := Lib.hid U2
        have HP2 := Lib.hid P2
        clear P2 U2
        go_wp2_with fail
        rw [← HV3.out]
        have P3 := HP2.out.put0 v3
        have T3 := (HT.out.below HU2.out).setCell s 0 v3 (by unfold Off; omega)
        have G3 := (HR2.out.below HU2.out).setCell s 0 v3 (by unfold Off; omega)
        have hsz3 : s + 4 ≤ (w2.setCell ⟨s, 0, none⟩ v3).heap.size := P3.lt
        have hput := rput_any (Off S s) r2 x (ys ++ xs.take k) false (.slice wa m wc) _ G3 hr2 (fun b hb => ⟨HSS.out b (by have := HS.out; omega), .inr (by omega)⟩)
        rw [show putL r2 (ys ++ xs.take k) false x = ys ++ xs.take (k + 1) by unfold putL; rw [if_neg (by simp), if_pos (by rw [← HM.out]; exact hmr), HTK.out, List.append_assoc], show putE r2 (ys ++ xs.take k) false = 0 by unfold putE; rw [if_neg (by simp), if_pos (by rw [← HM.out]; exact hmr)]] at hput
        refine hput.mono ?_
        rintro e w4 ⟨v4, rfl, G4, U4⟩
        have P4 := P3.below U4
        have T4 := T3.below U4
        have HG4 := Lib.hid G4
        obtain ⟨xa, xc, hv4, _⟩ := G4
        obtain ⟨m2, hm2⟩ : ∃ m2, m2 = (ys ++ xs.take (k + 1)).length := ⟨_, rfl⟩
        rw [← hm2] at hv4
        clear hm2
        obtain ⟨b00, b01, b02, b10, b11, b12, fb0, fb1⟩ := P4.facts
        have HP4 := Lib.hid P4
        have HT4 := Lib.hid T4
        subst hv4
        clear P3 T3 G3 hput U4 P4 T4
        go_wp2_with fail
        go_roundw
        case rel =>
          refine ⟨k + 1, v3, _, by omega, by go_num, HP4.out.put1 _, ?_, ?_⟩
          · rw [HD2.out]
            exact ((HT4.out.setCell (s + 1) 0 _ (by unfold Off; omega)).setCell (s + 1) 1 _ (by unfold Off; omega)).setCell (s + 1) 2 _ (by unfold Off; omega)
          · exact ((HG4.out.setCell (s + 1) 0 _ (by unfold Off; omega)).setCell (s + 1) 1 _ (by unfold Off; omega)).setCell (s + 1) 2 _ (by unfold Off; omega)
        case measure => simp [intOf]; omega
    · obtain rfl : k = N := by omega
      obtain ⟨hkx, hend⟩ := pourN_end (by rw [← HNN.out]; exact Nat.le_refl _) (by rw [← HNN.out]; exact Nat.lt_irrefl _) hy
      obtain ⟨va, vc, hu1, _⟩ := HR1.out
      obtain ⟨wa, wc, hu2, _⟩ := HR2.out
      obtain ⟨n, hn⟩ : ∃ n, n = (xs.drop k).length := ⟨_, rfl⟩
      obtain ⟨m, hm⟩ : ∃ m, m = (ys ++ xs.take k).length := ⟨_, rfl⟩
      rw [← hn] at hu1
      rw [← hm] at hu2 hend
      have hroom := rroom_any r2 u2 b2 (ys ++ xs.take k) (Off S s) wr HR2.out (by omega) (by omega)
      rw [← hm] at hroom
      have HROOM := Lib.hid hroom
      subst hu1 hu2
      obtain ⟨b00, b01, b02, b10, b11, b12, fb0, fb1⟩ := HP.out.facts
      obtain ⟨r00, r01, r02, r10, r11, r12, fr0, fr1⟩ := HP.out.res
      have hnx : k = xs.length ∧ n = 0 ∨ 0 < n ∧ (if b2 then (0 : Int) else (r2 : Int) - m) ≤ 0 := by
        rw [List.length_drop] at hn
        rcases hend with h | ⟨h1, h2⟩
        · exact .inl ⟨h, by omega⟩
        · exact .inr ⟨by omega, h2⟩
      clear hn hm hroom hend
      rcases hnx with ⟨hk0, rfl⟩ | ⟨hn0, hrm⟩
      · clear hk0
        go_wp2_with fail
        go_region
        all_goals (go_wp2_with fail)
        obtain ⟨f1, f2, f3, f4⟩ := HP.out.fin
        obtain ⟨W7, hW7⟩ : ∃ W7, fin6 s (.slice va 0 vc) r1 b1 (.slice wa m wc) r2 b2 wr = W7 := ⟨_, rfl⟩
        rw [hW7] at f1 f2 f3 f4
        unfold fin6 at hW7
        rw [hW7]
        refine bodyPost_ret (results_row2_tmp rfl _ _ (s + 1 + 1) (s + 1 + 1 + 1) _ _ rfl (load_q (W := W7.drew) f1 rfl) rfl (load_q (W := W7.drew) f2 rfl)) rfl ?_
        exact ⟨_, _, rfl, (HR1.out.keep fun b hb _ => f4 b hb.2).imp fun b _ hb => hb.1, (HR2.out.keep fun b hb _ => f4 b hb.2).imp fun b _ hb => hb.1, by rw [← HS.out]; exact f3.drew⟩
      · obtain ⟨rm, hrme⟩ : ∃ rm, rm = (if b2 then (0 : Int) else (r2 : Int) - m) := ⟨_, rfl⟩
        rw [← hrme] at hrm HROOM
        clear hrme
        go_wp2_with fail
        refine HROOM.out.mono ?_
        rintro e w2 ⟨rfl, U2⟩
        have P2 := HP.out.below U2
        obtain ⟨b00, b01, b02, b10, b11, b12, fb0, fb1⟩ := P2.facts
        obtain ⟨r00, r01, r02, r10, r11, r12, fr0, fr1⟩ := P2.res
        have HP2 := Lib.hid P2
        have HU2 := Lib.hid U2
        clear P2 U2
        go_wp2_with fail
        go_region
        all_goals (go_wp2_with fail)
        obtain ⟨f1, f2, f3, f4⟩ := HP2.out.fin
        obtain ⟨W7, hW7⟩ : ∃ W7, fin6 s (.slice va n vc) r1 b1 (.slice wa m wc) r2 b2 w2 = W7 := ⟨_, rfl⟩
        rw [hW7] at f1 f2 f3 f4
        unfold fin6 at hW7
        rw [hW7]
        refine bodyPost_ret (results_row2_tmp rfl _ _ (s + 1 + 1) (s + 1 + 1 + 1) _ _ rfl (load_q (W := W7.drew) f1 rfl) rfl (load_q (W := W7.drew) f2 rfl)) rfl ?_
        exact ⟨_, _, rfl, ((HR1.out.below HU2.out).keep fun b hb _ => f4 b hb.2).imp fun b _ hb => hb.1, ((HR2.out.below HU2.out).keep fun b hb _ => f4 b hb.2).imp fun b _ hb => hb.1, by rw [← HS.out]; exact f3.drew⟩
end Go.Proofs.Ytndhhpiklaffoaa.Mail
