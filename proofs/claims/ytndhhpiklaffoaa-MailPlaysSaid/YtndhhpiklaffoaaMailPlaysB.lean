/-
  A step of two queues and the reference's: its contract, kind by kind.
-/
import Derived.Test.YtndhhpiklaffoaaMailPlaysA
namespace Go.Proofs.Ytndhhpiklaffoaa.Mail
open Go.RowKit
open Clock (heap_set)
set_option linter.unusedVariables false

def Even (s g t : Nat) (w : World) (r1 r2 : Nat) (W : World) : Prop := ∃ A1 c1 A2 c2 u1 u2, MQ s g t w r1 r2 A1 c1 A2 c2 A1 c1 u1 A2 c2 u2 W
/-- The queues beside a step's own box. -/
structure KQ (s g t : Nat) (w : World) (r1 r2 : Nat) (A1 : List Int) (c1 : Bool) (A2 : List Int) (c2 : Bool) (X1 : List Int) (d1 : Bool) (u1 : Value) (X2 : List Int) (d2 : Bool) (u2 : Value) (ow : Nat) (x : Int) (W : World) : Prop where
  mq : MQ s g t w r1 r2 A1 c1 A2 c2 X1 d1 u1 X2 d2 u2 W
  ob : ∃ k o, W.heap[ow]? = some (.cells #[k, .int .i64 x, o] 33 (0, 0))
  lt : t < ow
section
variable {S : Nat → Prop} {w : World} {A : List Int} {ad : Addr} {n cap k c : Nat}
theorem RowFrom.toRow {u : Value} (h : RowFrom S w u A) : RowOf .i64 w u A := by
  obtain ⟨a, cap, rfl, _, _, _, h⟩ := h
  exact ⟨a, cap, rfl, fun hne => by obtain ⟨b, off, e, _, _, hc⟩ := h hne; exact ⟨b, off, e, hc⟩⟩
theorem RowFrom.first (h : RowFrom S w (.slice (some ad) n cap) A) (hk : k ≤ n) (he : n = A.length) : RowFrom S w (.slice (some ad) k cap) (A.take k) := by
  obtain ⟨a, cap', e, h1, h2, h3, h4⟩ := h
  injection e with e1 e2 e3
  subst e1 e3
  refine ⟨_, cap, by rw [List.length_take, Nat.min_eq_left (by omega)], by rw [List.length_take]; omega, h2, h3, fun hne => ?_⟩
  obtain ⟨b, off, e, hS, hb, hc⟩ := h4 (by intro e; rw [e] at hne; simp at hne)
  refine ⟨b, off, e, hS, hb, fun i hi => ?_⟩
  rw [List.length_take] at hi
  have := hc i (by omega)
  rw [List.getElem?_take_of_lt (by omega)]
  exact this
theorem RowFrom.rest (h : RowFrom S w (.slice (some ad) n cap) A) (hk : k ≤ n) (he : n = A.length) (hc : cap = k + (c + 1)) : RowFrom S w (.slice (some (ad.add k)) (n - k) (c + 1)) (A.drop k) := by
  obtain ⟨a, cap', e, h1, h2, h3, h4⟩ := h
  injection e with e1 e2 e3
  subst e1 e3
  refine ⟨_, c + 1, by rw [List.length_drop, he], by rw [List.length_drop]; omega, by omega, fun h => by simp at h, fun hne => ?_⟩
  obtain ⟨b, off, e, hS, hb, hc⟩ := h4 (by intro e; rw [e] at hne; simp at hne)
  obtain rfl : ad = ⟨b, off, none⟩ := Option.some.inj e
  refine ⟨b, off + k, by rw [Open.add_at], hS, hb, fun i hi => ?_⟩
  rw [List.length_drop] at hi
  have := hc (k + i) (by omega)
  rw [List.getElem?_drop, show off + k + i = off + (k + i) by omega]
  exact this
theorem RowFrom.none (ad : Option Addr) (c : Nat) (hc : c ≤ maxLen) (h : ad = none → c = 0) : RowFrom S w (.slice ad 0 c) [] := ⟨ad, c, rfl, by simp, hc, h, fun h => absurd rfl h⟩
end
theorem rget_any (S : Nat → Prop) (r : Int) (xs : List Int) (u : Value) (sh : Bool) (w : World) (h : RowFrom S w u xs) :
    Calls Try.prog 42 #[.agg #[u, .int .i64 r, .bool sh]] w fun e w' => ∃ u', e = .returned (.tuple #[.agg #[u', .int .i64 r, .bool sh], .int .i64 (xs.headD 0), .bool (!xs.isEmpty)]) ∧ RowFrom S w' u' xs.tail ∧ Below w.heap.size w w' := by
  cases xs with
  | nil => exact (rget_nil S r u sh w h).mono fun e w' ⟨he, hb⟩ => ⟨u, he, h.below hb, hb⟩
  | cons x xs => exact rget_cons S r x xs u sh w h
section
variable {s g t ow : Nat} {w W W' : World} {r1 r2 : Nat} {A1 A2 X1 X2 : List Int} {c1 c2 d1 d2 : Bool} {u1 u2 : Value} {kind x : Int} {oth : Bool}
theorem KQ.below (h : KQ s g t w r1 r2 A1 c1 A2 c2 X1 d1 u1 X2 d2 u2 ow x W) (u : Below W.heap.size W W') : KQ s g t w r1 r2 A1 c1 A2 c2 X1 d1 u1 X2 d2 u2 ow x W' :=
  ⟨h.mq.below u, by obtain ⟨k, o, hb⟩ := h.ob; exact ⟨k, o, (u.block ow (lt_of_block hb)).trans hb⟩, h.lt⟩
theorem KQ.alloc (h : KQ s g t w r1 r2 A1 c1 A2 c2 X1 d1 u1 X2 d2 u2 ow x W) (o : Obj) : KQ s g t w r1 r2 A1 c1 A2 c2 X1 d1 u1 X2 d2 u2 ow x (W.alloc o) := h.below ((Below.refl _ W).alloc (Nat.le_refl _) o)
theorem KQ.drew (h : KQ s g t w r1 r2 A1 c1 A2 c2 X1 d1 u1 X2 d2 u2 ow x W) : KQ s g t w r1 r2 A1 c1 A2 c2 X1 d1 u1 X2 d2 u2 ow x W.drew := h.below (Below.drew (Below.refl _ W))
/-- What is read of it. -/
def KS (s g t : Nat) (w : World) (r1 r2 : Nat) (A1 : List Int) (c1 : Bool) (A2 : List Int) (c2 : Bool) (X1 : List Int) (d1 : Bool) (u1 : Value) (X2 : List Int) (d2 : Bool) (u2 : Value) (ow : Nat) (x : Int) (W : World) : Prop :=
  W.cell? ⟨g, 0, none⟩ = some (.pointer (some ⟨s + 1, 0, none⟩)) ∧ W.cell? ⟨g, 1, none⟩ = some (.pointer (some ⟨s + 2 + 1, 0, none⟩)) ∧
    W.cell? ⟨t, 0, none⟩ = some u1 ∧ W.cell? ⟨t, 1, none⟩ = some (.int .i64 r1) ∧ W.cell? ⟨t, 2, none⟩ = some (.bool d1) ∧ W.cell? ⟨t, 3, none⟩ = some u2 ∧ W.cell? ⟨t, 4, none⟩ = some (.int .i64 r2) ∧ W.cell? ⟨t, 5, none⟩ = some (.bool d2) ∧
    W.cell? ⟨ow, 1, none⟩ = some (.int .i64 x) ∧ t < W.heap.size ∧ KQ s g t w r1 r2 A1 c1 A2 c2 X1 d1 u1 X2 d2 u2 ow x W
theorem KQ.ks (h : KQ s g t w r1 r2 A1 c1 A2 c2 X1 d1 u1 X2 d2 u2 ow x W) : KS s g t w r1 r2 A1 c1 A2 c2 X1 d1 u1 X2 d2 u2 ow x W := by
  obtain ⟨h1, h2, h3, h4, h5, h6, h7, h8, _⟩ := h.mq.facts
  obtain ⟨k, o, hb⟩ := h.ob
  exact ⟨h1, h2, h3, h4, h5, h6, h7, h8, by simp [World.cell?, hb], h.mq.lt, h⟩
theorem KQ.kt (h : KQ s g t w r1 r2 A1 c1 A2 c2 X1 d1 u1 X2 d2 u2 ow x W) : W.cell? ⟨t, 0, none⟩ = some u1 ∧ W.cell? ⟨t, 1, none⟩ = some (.int .i64 r1) ∧ W.cell? ⟨t, 2, none⟩ = some (.bool d1) ∧ W.cell? ⟨t, 3, none⟩ = some u2 ∧ W.cell? ⟨t, 4, none⟩ = some (.int .i64 r2) ∧ W.cell? ⟨t, 5, none⟩ = some (.bool d2) ∧ t < W.heap.size ∧ KQ s g t w r1 r2 A1 c1 A2 c2 X1 d1 u1 X2 d2 u2 ow x W := by
  obtain ⟨_, _, h3, h4, h5, h6, h7, h8, _⟩ := h.mq.facts
  exact ⟨h3, h4, h5, h6, h7, h8, h.mq.lt, h⟩
theorem KQ.other {b : Nat} {cs : Array Value} {ty : TypeId} (h : KQ s g t w r1 r2 A1 c1 A2 c2 X1 d1 u1 X2 d2 u2 ow x W) (hb : W.heap[b]? = some (.cells cs ty (0, 0))) (hty : ty ≠ 3) (htb : t < b) (hbo : b ≠ ow) (o : Nat) (y : Value) :
    KQ s g t w r1 r2 A1 c1 A2 c2 X1 d1 u1 X2 d2 u2 ow x (W.setCell ⟨b, o, none⟩ y) := by
  have hl := h.mq.lt
  obtain ⟨o1, o2⟩ := h.mq.ord
  have ht : Turn (fun k => k = b) W (W.setCell ⟨b, o, none⟩ y) := ⟨rfl, rfl, rfl, by simp, fun k _ hS => Below.heap_setCell _ _ _ _ (fun e => hS e)⟩
  refine ⟨⟨h.mq.q1.keep ht (by omega) (by omega), h.mq.q2.keep ht (by omega) (by omega), (ht.block g (by omega) (by omega)).trans h.mq.ptr, (ht.block t hl (by omega)).trans h.mq.row, h.mq.v1.other hb hty o y, h.mq.v2.other hb hty o y, h.mq.old.setCell (by show s ≤ b; omega) _, h.mq.ord⟩, ?_, h.lt⟩
  obtain ⟨k, oo, he⟩ := h.ob
  exact ⟨k, oo, (ht.block ow (lt_of_block he) (fun e => hbo e.symm)).trans he⟩
theorem KQ.box3 {b : Nat} {cs : Array Value} {v r c : Value} (h : KQ s g t w r1 r2 A1 c1 A2 c2 X1 d1 u1 X2 d2 u2 ow x W) (hb : W.heap[b]? = some (.cells cs 29 (0, 0))) (hcs : cs.size = 3) (htb : t < b) (hbo : b ≠ ow) :
    KQ s g t w r1 r2 A1 c1 A2 c2 X1 d1 u1 X2 d2 u2 ow x (((W.setCell ⟨b, 0, none⟩ v).setCell ⟨b, 1, none⟩ r).setCell ⟨b, 2, none⟩ c) ∧ (((W.setCell ⟨b, 0, none⟩ v).setCell ⟨b, 1, none⟩ r).setCell ⟨b, 2, none⟩ c).heap[b]? = some (.cells #[v, r, c] 29 (0, 0)) ∧
    ∀ (P : Nat → Prop) u X, RowFrom P W u X → RowFrom P (((W.setCell ⟨b, 0, none⟩ v).setCell ⟨b, 1, none⟩ r).setCell ⟨b, 2, none⟩ c) u X := by
  have hty : (29 : TypeId) ≠ 3 := by decide
  have e1 := heap_set hb 0 v
  have e2 := heap_set e1 1 r
  refine ⟨((h.other hb hty htb hbo 0 v).other e1 hty htb hbo 1 r).other e2 hty htb hbo 2 c, ?_, fun P u X hr => ((hr.other hb hty 0 v).other e1 hty 1 r).other e2 hty 2 c⟩
  have e3 := heap_set e2 2 c
  rw [e3]
  obtain ⟨l⟩ := cs
  match l, hcs with
  | [a, b, c], _ => rfl
theorem KQ.turn1 {A : List Int} {c : Bool} (h : KQ s g t w r1 r2 A1 c1 A2 c2 X1 d1 u1 X2 d2 u2 ow x W) (q : QAt W' s r1 A c) (u : Turn (Of s) W W') : KQ s g t w r1 r2 A c A2 c2 X1 d1 u1 X2 d2 u2 ow x W' := by
  obtain ⟨o1, o2⟩ := h.mq.ord
  have := h.lt
  obtain ⟨k, o, hb⟩ := h.ob
  exact ⟨h.mq.turn1 q u, ⟨k, o, (u.block ow (lt_of_block hb) (by unfold Of; omega)).trans hb⟩, h.lt⟩
theorem KQ.turn2 {A : List Int} {c : Bool} (h : KQ s g t w r1 r2 A1 c1 A2 c2 X1 d1 u1 X2 d2 u2 ow x W) (q : QAt W' (s + 2) r2 A c) (u : Turn (Of (s + 2)) W W') : KQ s g t w r1 r2 A1 c1 A c X1 d1 u1 X2 d2 u2 ow x W' := by
  obtain ⟨o1, o2⟩ := h.mq.ord
  have := h.lt
  obtain ⟨k, o, hb⟩ := h.ob
  exact ⟨h.mq.turn2 q u, ⟨k, o, (u.block ow (lt_of_block hb) (by unfold Of; omega)).trans hb⟩, h.lt⟩
theorem KQ.turn12 {A B : List Int} {c d : Bool} (h : KQ s g t w r1 r2 A1 c1 A2 c2 X1 d1 u1 X2 d2 u2 ow x W) (q : QAt W' s r1 A c) (q' : QAt W' (s + 2) r2 B d) (u : Turn (Or2 (Of s) (Of (s + 2))) W W') : KQ s g t w r1 r2 A c B d X1 d1 u1 X2 d2 u2 ow x W' := by
  obtain ⟨o1, o2⟩ := h.mq.ord
  have := h.lt
  obtain ⟨k, o, hb⟩ := h.ob
  exact ⟨h.mq.turn12 q q' u, ⟨k, o, (u.block ow (lt_of_block hb) (by unfold Or2 Of; omega)).trans hb⟩, h.lt⟩
theorem ob_set {o : Nat} {y : Value} (h : ∃ k o, W.heap[ow]? = some (.cells #[k, .int .i64 x, o] 33 (0, 0))) (hne : t < ow) : ∃ k o', (W.setCell ⟨t, o, none⟩ y).heap[ow]? = some (.cells #[k, .int .i64 x, o'] 33 (0, 0)) := by
  obtain ⟨k, o', hb⟩ := h
  exact ⟨k, o', (Below.heap_setCell _ _ _ _ (by show ow ≠ t; omega)).trans hb⟩
theorem KQ.row1 {u : Value} {X : List Int} (h : KQ s g t w r1 r2 A1 c1 A2 c2 X1 d1 u1 X2 d2 u2 ow x W) (hv : RowFrom (Aft t) W u X) (d : Bool) :
    KQ s g t w r1 r2 A1 c1 A2 c2 X d u X2 d2 u2 ow x (((W.setCell ⟨t, 0, none⟩ u).setCell ⟨t, 1, none⟩ (.int .i64 r1)).setCell ⟨t, 2, none⟩ (.bool d)) :=
  ⟨(h.mq.setU1 hv).setR1.setD1 d, ob_set (ob_set (ob_set h.ob h.lt) h.lt) h.lt, h.lt⟩
theorem KQ.row2 {u : Value} {X : List Int} (h : KQ s g t w r1 r2 A1 c1 A2 c2 X1 d1 u1 X2 d2 u2 ow x W) (hv : RowFrom (Aft t) W u X) (d : Bool) :
    KQ s g t w r1 r2 A1 c1 A2 c2 X1 d1 u1 X d u ow x (((W.setCell ⟨t, 3, none⟩ u).setCell ⟨t, 4, none⟩ (.int .i64 r2)).setCell ⟨t, 5, none⟩ (.bool d)) :=
  ⟨(h.mq.setU2 hv).setR2.setD2 d, ob_set (ob_set (ob_set h.ob h.lt) h.lt) h.lt, h.lt⟩
theorem box3_off {b b' : Nat} {v r c : Value} (hne : b' ≠ b) : (((W.setCell ⟨b, 0, none⟩ v).setCell ⟨b, 1, none⟩ r).setCell ⟨b, 2, none⟩ c).heap[b']? = W.heap[b']? := by
  rw [Below.heap_setCell _ _ _ _ (by exact hne), Below.heap_setCell _ _ _ _ (by exact hne), Below.heap_setCell _ _ _ _ (by exact hne)]
theorem KQ.box33 {b b' : Nat} {cs cs' : Array Value} {v r c v' r' c' : Value} (h : KQ s g t w r1 r2 A1 c1 A2 c2 X1 d1 u1 X2 d2 u2 ow x W) (hb : W.heap[b]? = some (.cells cs 29 (0, 0))) (hb' : W.heap[b']? = some (.cells cs' 29 (0, 0))) (hcs : cs.size = 3) (hcs' : cs'.size = 3) (htb : t < b) (htb' : t < b') (hbo : b ≠ ow) (hbo' : b' ≠ ow) (hne : b' ≠ b) :
    KQ s g t w r1 r2 A1 c1 A2 c2 X1 d1 u1 X2 d2 u2 ow x (((((W.setCell ⟨b, 0, none⟩ v).setCell ⟨b, 1, none⟩ r).setCell ⟨b, 2, none⟩ c).setCell ⟨b', 0, none⟩ v').setCell ⟨b', 1, none⟩ r' |>.setCell ⟨b', 2, none⟩ c') ∧
    (((((W.setCell ⟨b, 0, none⟩ v).setCell ⟨b, 1, none⟩ r).setCell ⟨b, 2, none⟩ c).setCell ⟨b', 0, none⟩ v').setCell ⟨b', 1, none⟩ r' |>.setCell ⟨b', 2, none⟩ c').heap[b]? = some (.cells #[v, r, c] 29 (0, 0)) ∧
    (((((W.setCell ⟨b, 0, none⟩ v).setCell ⟨b, 1, none⟩ r).setCell ⟨b, 2, none⟩ c).setCell ⟨b', 0, none⟩ v').setCell ⟨b', 1, none⟩ r' |>.setCell ⟨b', 2, none⟩ c').heap[b']? = some (.cells #[v', r', c'] 29 (0, 0)) ∧
    ∀ (P : Nat → Prop) u X, RowFrom P W u X → RowFrom P (((((W.setCell ⟨b, 0, none⟩ v).setCell ⟨b, 1, none⟩ r).setCell ⟨b, 2, none⟩ c).setCell ⟨b', 0, none⟩ v').setCell ⟨b', 1, none⟩ r' |>.setCell ⟨b', 2, none⟩ c') u X := by
  obtain ⟨k1, e1, f1⟩ := h.box3 (v := v) (r := r) (c := c) hb hcs htb hbo
  have hb2 := (box3_off (W := W) (b := b) (b' := b') (v := v) (r := r) (c := c) hne).trans hb'
  obtain ⟨k2, e2, f2⟩ := k1.box3 (v := v') (r := r') (c := c') hb2 hcs' htb' hbo'
  exact ⟨k2, (box3_off (fun e => hne e.symm)).trans e1, e2, fun P u X hr => f2 P u X (f1 P u X hr)⟩
theorem KQ.aa (h : KQ s g t w r1 r2 A1 c1 A2 c2 X1 d1 u1 X2 d2 u2 ow x W) (F T : Obj) : KQ s g t w r1 r2 A1 c1 A2 c2 X1 d1 u1 X2 d2 u2 ow x ((W.alloc F).alloc T) ∧ ((W.alloc F).alloc T).heap[W.heap.size]? = some F ∧ ((W.alloc F).alloc T).heap[W.heap.size + 1]? = some T ∧
    ∀ (P : Nat → Prop) u X, RowFrom P W u X → RowFrom P ((W.alloc F).alloc T) u X := by
  refine ⟨(h.alloc F).alloc T, (Below.heap_alloc _ _ _ (by simp)).trans (heap_alloc_new W F), ?_, fun P u X hr => (hr.below ((Below.refl _ W).alloc (Nat.le_refl _) F)).below ((Below.refl _ _).alloc (Nat.le_refl _) T)⟩
  have := heap_alloc_new (W.alloc F) T
  rw [World.size_alloc] at this
  exact this
theorem KQ.ba {b : Nat} {cs : Array Value} {v r c : Value} (h : KQ s g t w r1 r2 A1 c1 A2 c2 X1 d1 u1 X2 d2 u2 ow x W) (hb : W.heap[b]? = some (.cells cs 29 (0, 0))) (hcs : cs.size = 3) (htb : t < b) (hbo : b ≠ ow) (T : Obj) :
    KQ s g t w r1 r2 A1 c1 A2 c2 X1 d1 u1 X2 d2 u2 ow x ((((W.setCell ⟨b, 0, none⟩ v).setCell ⟨b, 1, none⟩ r).setCell ⟨b, 2, none⟩ c).alloc T) ∧ ((((W.setCell ⟨b, 0, none⟩ v).setCell ⟨b, 1, none⟩ r).setCell ⟨b, 2, none⟩ c).alloc T).heap[b]? = some (.cells #[v, r, c] 29 (0, 0)) ∧
    ((((W.setCell ⟨b, 0, none⟩ v).setCell ⟨b, 1, none⟩ r).setCell ⟨b, 2, none⟩ c).alloc T).heap[W.heap.size]? = some T ∧
    ∀ (P : Nat → Prop) u X, RowFrom P W u X → RowFrom P ((((W.setCell ⟨b, 0, none⟩ v).setCell ⟨b, 1, none⟩ r).setCell ⟨b, 2, none⟩ c).alloc T) u X := by
  obtain ⟨k1, e1, f1⟩ := h.box3 (v := v) (r := r) (c := c) hb hcs htb hbo
  have hsz : (((W.setCell ⟨b, 0, none⟩ v).setCell ⟨b, 1, none⟩ r).setCell ⟨b, 2, none⟩ c).heap.size = W.heap.size := by simp
  refine ⟨k1.alloc T, (Below.heap_alloc _ _ _ (lt_of_block e1)).trans e1, ?_, fun P u X hr => (f1 P u X hr).below ((Below.refl _ _).alloc (Nat.le_refl _) T)⟩
  have := heap_alloc_new (((W.setCell ⟨b, 0, none⟩ v).setCell ⟨b, 1, none⟩ r).setCell ⟨b, 2, none⟩ c) T
  rw [hsz] at this
  exact this
theorem two_alloc (w : World) (o : Obj) : ((w.alloc o).alloc o).heap[w.heap.size]? = some o ∧ ((w.alloc o).alloc o).heap[w.heap.size + 1]? = some o := by
  refine ⟨(Below.heap_alloc _ _ _ (by simp)).trans (heap_alloc_new w o), ?_⟩
  have := heap_alloc_new (w.alloc o) o
  rw [World.size_alloc] at this
  exact this
theorem yfacts {b : Nat} {cs : Array Value} {ty : TypeId} (h : W.heap[b]? = some (.cells cs ty (0, 0))) : W.cell? ⟨b, 0, none⟩ = cs[0]? ∧ W.cell? ⟨b, 1, none⟩ = cs[1]? ∧ W.cell? ⟨b, 2, none⟩ = cs[2]? ∧ ∀ o, W.frozen? ⟨b, o, none⟩ = false :=
  ⟨by simp [World.cell?, h], by simp [World.cell?, h], by simp [World.cell?, h], fun o => by simp [World.frozen?, h]⟩
end
end Go.Proofs.Ytndhhpiklaffoaa.Mail
