/-
  The places of a row: the iterator, which ranges over a field's places.
-/
import Derived.Test.YtlcjiffnmpkndaaTyL
namespace Go.Proofs.Ytlcjiffnmpkndaa.Pl
open Go.RowKit Go.Shelf Base
attribute [local go_sem] Oper.semAt_some
set_option linter.unusedVariables false
set_option linter.unusedSimpArgs false

/-- Of places those from one on. -/
def dropTo (a : Int) (xs : List Int) : List Int := xs.dropWhile fun y => decide (y ≠ a)
def rowL (L : List Cl) (a : Int) : List Int := dropTo a (placesL L.length (wholeF L a).s (wholeF L a).k)
theorem dropTo_ne {a : Int} : ∀ {xs : List Int}, a ∈ xs → dropTo a xs ≠ []
  | [], h => by cases h
  | x :: xs, h => by
    unfold dropTo
    rw [List.dropWhile_cons]
    by_cases hx : x = a
    · simp [hx]
    · rw [if_pos (by simpa using hx)]
      exact dropTo_ne (by rcases List.mem_cons.1 h with e | e; exact absurd e.symm hx; exact e)
theorem dropTo_nil {a : Int} : ∀ {xs : List Int}, a ∉ xs → dropTo a xs = []
  | [], _ => rfl
  | x :: xs, h => by
    unfold dropTo
    rw [List.dropWhile_cons, if_pos (by have : x ≠ a := fun e => h (by rw [e]; simp); simpa using this)]
    exact dropTo_nil (fun e => h (List.mem_cons_of_mem _ e))
theorem dropTo_snoc_in {a : Int} {xs : List Int} (h : a ∈ xs) (y : Int) : dropTo a (xs ++ [y]) = dropTo a xs ++ [y] := by
  have hn := dropTo_ne h
  unfold dropTo at hn ⊢
  rw [List.dropWhile_append, if_neg (by simpa [List.isEmpty_iff] using hn)]
theorem dropTo_snoc_at {a : Int} {xs : List Int} (h : a ∉ xs) : dropTo a (xs ++ [a]) = [a] := by
  have := dropTo_nil h
  unfold dropTo at this ⊢
  rw [List.dropWhile_append, this]
  simp
theorem dropTo_snoc_no {a y : Int} {xs : List Int} (h : a ∉ xs) (hy : y ≠ a) : dropTo a (xs ++ [y]) = [] :=
  dropTo_nil (fun e => by rcases List.mem_append.1 e with e | e; exact h e; exact hy (List.mem_singleton.1 e).symm)
theorem dropTo_pre {a : Int} {xs ys : List Int} (h : a ∈ xs) (hp : xs <+: ys) : dropTo a xs <+: dropTo a ys := by
  obtain ⟨t, rfl⟩ := hp
  have hn := dropTo_ne h
  unfold dropTo at hn ⊢
  rw [List.dropWhile_append, if_neg (by simpa [List.isEmpty_iff] using hn)]
  exact ⟨t, rfl⟩
/-- What a round must keep: all that was laid since the iterator was called, and what it reads. -/
structure KR (bp bf : Nat) (N0 : Nat) (A B : World) : Prop where
  size : A.heap.size ≤ B.heap.size
  hi : ∀ k, N0 ≤ k → k < A.heap.size → B.heap[k]? = A.heap[k]?
  lo : B.heap[bp]? = A.heap[bp]? ∧ B.heap[bf]? = A.heap[bf]?
theorem KR.trans {bp bf N0 : Nat} {A B C : World} (h : KR bp bf N0 A B) (k : KR bp bf N0 B C) : KR bp bf N0 A C :=
  ⟨Nat.le_trans h.size k.size, fun i hi hl => (k.hi i hi (Nat.lt_of_lt_of_le hl h.size)).trans (h.hi i hi hl), k.lo.1.trans h.lo.1, k.lo.2.trans h.lo.2⟩
theorem KR.keeps {bp bf N0 : Nat} {A B : World} (h : KR bp bf N0 A B) : KeepsFrom N0 A B := ⟨h.size, fun k o hk ho _ => (h.hi k hk (lt_of_block ho)).trans ho⟩
theorem KR.refl (bp bf N0 : Nat) (A : World) : KR bp bf N0 A A := ⟨Nat.le_refl _, fun _ _ _ => rfl, rfl, rfl⟩
theorem KR.turn {S : Nat → Prop} {bp bf N0 : Nat} {A B : World} (t : Turn S A B) (hS : ∀ k, S k → k < N0) (h1 : bp < A.heap.size ∧ ¬ S bp) (h2 : bf < A.heap.size ∧ ¬ S bf) : KR bp bf N0 A B :=
  ⟨t.size, fun k hk hl => t.block k hl (fun h => by have := hS k h; omega), t.block bp h1.1 h1.2, t.block bf h2.1 h2.2⟩
theorem KR.put {bp bf N0 k : Nat} (W : World) (o' : Obj) (hk : k < N0) (h1 : bp ≠ k) (h2 : bf ≠ k) (l1 : bp < W.heap.size) (l2 : bf < W.heap.size) : KR bp bf N0 W (W.putObj k o') :=
  ⟨(grownBy_putObj' W k o').size, fun j hj hl => (grownBy_putObj' W k o').block j hl (fun e => by cases e; omega), (grownBy_putObj' W k o').block bp l1 (fun e => by cases e; exact h1 rfl), (grownBy_putObj' W k o').block bf l2 (fun e => by cases e; exact h2 rfl)⟩
/-- What the region that draws knows. -/
structure RwQ (bp bf b g : Nat) (r c cur : Int) (L : List Cl) (a : Int) (W0 X : World) : Prop where
  it : BackIt X bp bf b a
  pl : PlAt X b g r c cur L
  old : Below W0.heap.size W0 X
section
variable {bp bf b g : Nat} {r c cur a : Int} {L : List Cl} {W0 X Y : World}
theorem RwQ.below (h : RwQ bp bf b g r c cur L a W0 X) (t : Below X.heap.size X Y) : RwQ bp bf b g r c cur L a W0 Y :=
  ⟨⟨(t.block _ (lt_of_block h.it.1)).trans h.it.1, (t.block _ (lt_of_block h.it.2)).trans h.it.2⟩, h.pl.below t, h.old.trans (t.mono h.old.size)⟩
theorem RwQ.drew (h : RwQ bp bf b g r c cur L a W0 X) : RwQ bp bf b g r c cur L a W0 X.drew := h.below ⟨rfl, rfl, rfl, Nat.le_refl _, fun _ _ => rfl⟩
theorem RwQ.sc (h : RwQ bp bf b g r c cur L a W0 X) : X.cell? ⟨bp, 0, none⟩ = some (.pointer (some ⟨b, 0, none⟩)) ∧ X.cell? ⟨bf, 0, none⟩ = some (.int .i64 a) ∧ RwQ bp bf b g r c cur L a W0 X :=
  ⟨by simp [World.cell?, h.it.1], by simp [World.cell?, h.it.2], h⟩
end
/-- What the loop begins with. -/
def PlcQ (bp bf b g : Nat) (r c cur : Int) (L : List Cl) (a : Int) (f : Fd) (v : Value) (W0 X : World) : Prop :=
  ∃ s, v = .func (.func 144) #[] #[.pointer (some ⟨s, 0, none⟩), .pointer (some ⟨s + 1, 0, none⟩)] ∧ PlcIt X s (s + 1) b f ∧ W0.heap.size ≤ s ∧ s + 2 ≤ X.heap.size ∧ RwQ bp bf b g r c cur L a W0 X
/-- What the inner loop knows. -/
structure RI (W : World) (J : List Int → World → Prop) (bp bf b : Nat) (a : Int) (l s : Nat) (f : Fd) (X0 : World) (pre : List Int) (X : World) : Prop where
  j : J (dropTo a pre) X
  it : BackIt X bp bf b a
  yb : X.heap[W.heap.size]? = some (.cells #[.func (.yield l) #[] #[]] 49 (0, 0))
  wb : X.heap[W.heap.size + 1]? = some (.cells #[.bool (decide (a ∈ pre))] 4 (0, 0))
  pc : PlcIt X s (s + 1) b f
  le : X0.heap.size ≤ X.heap.size
theorem RI.own {W : World} {J : List Int → World → Prop} {bp bf b : Nat} {a : Int} {l s : Nat} {f : Fd} {X0 : World} (hJl : LowFrom W.heap.size J) (h0 : W.heap.size ≤ X0.heap.size) : OwnFrom X0.heap.size (RI W J bp bf b a l s f X0) := by
  intro pre X Y row h hg hr
  have hr' : ∀ r, row = some r → ∃ o : Obj, X.heap[r]? = some o ∧ o.isCells = false := fun r e => (hr r e).2
  have hJ := hJl.own
  exact ⟨ownFrom_up hJ h0 _ X Y row h.j hg hr, ⟨(cells_kept h.it.1 hg hr').trans h.it.1, (cells_kept h.it.2 hg hr').trans h.it.2⟩, (cells_kept h.yb hg hr').trans h.yb, (cells_kept h.wb hg hr').trans h.wb, ⟨(cells_kept h.pc.1 hg hr').trans h.pc.1, (cells_kept h.pc.2 hg hr').trans h.pc.2⟩, Nat.le_trans h.le hg.size⟩
theorem ownFrom_exi {Jx : List Int → World → Prop} {S : List Int → Prop} {W X0 : World} (hJl : LowFrom W.heap.size Jx) (h0 : W.heap.size ≤ X0.heap.size) (c' : Code) : OwnFrom X0.heap.size (fun (pre : List Int) X => c' = .ret ∧ ∃ q, S q ∧ Jx q X) := by
  rintro pre X Y row ⟨h1, q, hs, h⟩ hg hr
  have hJ := hJl.own
  exact ⟨h1, q, hs, ownFrom_up hJ h0 _ X Y row h hg hr⟩
section
variable {W : World} {J : List Int → World → Prop} {bp bf b : Nat} {a : Int} {l s : Nat} {f : Fd} {X0 Y w4 : World} {pre : List Int} {p : Int}
/-- Behind the store of what is known. -/
theorem RI.store (h : RI W J bp bf b a l s f X0 pre Y) (hJ : LowFrom W.heap.size J) (hs : W.heap.size + 2 ≤ s) (hb : bp < W.heap.size ∧ bf < W.heap.size) (v : Bool) :
    J (dropTo a pre) (Y.setCell ⟨W.heap.size + 1, 0, none⟩ (.bool v)) ∧ BackIt (Y.setCell ⟨W.heap.size + 1, 0, none⟩ (.bool v)) bp bf b a ∧ (Y.setCell ⟨W.heap.size + 1, 0, none⟩ (.bool v)).heap[W.heap.size]? = some (.cells #[.func (.yield l) #[] #[]] 49 (0, 0)) ∧
      (Y.setCell ⟨W.heap.size + 1, 0, none⟩ (.bool v)).heap[W.heap.size + 1]? = some (.cells #[.bool v] 4 (0, 0)) ∧ PlcIt (Y.setCell ⟨W.heap.size + 1, 0, none⟩ (.bool v)) s (s + 1) b f ∧ Turn (At (W.heap.size + 1)) Y (Y.setCell ⟨W.heap.size + 1, 0, none⟩ (.bool v)) := by
  have t := turn_set Y (W.heap.size + 1) 0 (.bool v)
  have lw := lt_of_block h.wb
  refine ⟨?_, ⟨(t.block _ (lt_of_block h.it.1) (by unfold At; omega)).trans h.it.1, (t.block _ (lt_of_block h.it.2) (by unfold At; omega)).trans h.it.2⟩, (t.block _ (lt_of_block h.yb) (by unfold At; omega)).trans h.yb, ?_, ⟨(t.block _ (lt_of_block h.pc.1) (by unfold At; omega)).trans h.pc.1, (t.block _ (lt_of_block h.pc.2) (by unfold At; omega)).trans h.pc.2⟩, t⟩
  · exact hJ _ _ _ h.j (t.mono fun k hk => by unfold At at hk; omega)
  · rw [heap_set h.wb 0 _]; simp
end
end Go.Proofs.Ytlcjiffnmpkndaa.Pl
