/-
  Two sides of options whose words come to each other in order: plainly. Each option of each side is one small protocol; its states are few, and each comes to rest.
-/
import Derived.Test.YtkolhjglehnigaaOptB
namespace Go.Proofs.Ytkolhjglehnigaa.Opt
open Go.RowKit Base
set_option linter.unusedVariables false

/-- One option of one side: the state at p, at q, the words on their way to q, to p. -/
abbrev PS := Nat × Nat × List Bool × List Bool
def tb00 : List (PS × Nat) := [((0, 0, [], []), 0), ((1, 1, [], []), 0), ((0, 2, [false], []), 0), ((0, 3, [], [true]), 1), ((0, 3, [false], []), 0), ((0, 4, [false], []), 2), ((0, 5, [], [true]), 1), ((0, 5, [false], []), 0), ((1, 2, [], [false]), 1), ((1, 3, [true], []), 0), ((1, 4, [], [false]), 3), ((1, 5, [true], []), 2), ((2, 0, [], [false]), 0), ((2, 1, [false], []), 1), ((3, 0, [], [false]), 0), ((3, 0, [true], []), 1), ((3, 1, [], [true]), 0), ((4, 0, [], [false]), 2), ((4, 1, [false], []), 3), ((5, 0, [], [false]), 0), ((5, 0, [true], []), 1), ((5, 1, [], [true]), 2), ((2, 2, [false], [false]), 0), ((2, 3, [], [false, true]), 1), ((2, 3, [true, false], []), 1), ((2, 4, [false], [false]), 2), ((2, 5, [], [false, true]), 1), ((2, 5, [true, false], []), 1), ((3, 2, [], [true, false]), 1), ((3, 2, [false, true], []), 1), ((3, 3, [], [false, true]), 1), ((3, 3, [true], [true]), 0), ((3, 3, [false, true], []), 1), ((3, 4, [], [true, false]), 3), ((3, 4, [false, true], []), 1), ((3, 5, [], [false, true]), 1), ((3, 5, [true], [true]), 2), ((3, 5, [false, true], []), 1), ((4, 2, [false], [false]), 2), ((4, 3, [], [false, true]), 1), ((4, 3, [true, false], []), 3), ((4, 4, [false], [false]), 2), ((4, 5, [], [false, true]), 3), ((4, 5, [true, false], []), 3), ((5, 2, [], [true, false]), 1), ((5, 2, [false, true], []), 1), ((5, 3, [], [false, true]), 1), ((5, 3, [true], [true]), 2), ((5, 3, [false, true], []), 1), ((5, 4, [], [true, false]), 3), ((5, 4, [false, true], []), 3), ((5, 5, [], [false, true]), 1), ((5, 5, [true], [true]), 2), ((5, 5, [false, true], []), 1)]
def tb01 : List (PS × Nat) := [((0, 0, [], []), 0), ((1, 1, [], []), 0), ((0, 2, [false], []), 0), ((0, 3, [], [true]), 1), ((0, 3, [false], []), 0), ((0, 4, [false], []), 2), ((0, 5, [], [true]), 1), ((0, 5, [false], []), 0), ((1, 2, [], [false]), 1), ((1, 3, [true], []), 0), ((1, 4, [], [false]), 3), ((1, 5, [true], []), 2), ((2, 0, [], [false]), 0), ((2, 1, [false], []), 1), ((3, 0, [true], []), 1), ((3, 1, [], [true]), 0), ((4, 0, [], [false]), 2), ((4, 1, [false], []), 3), ((5, 0, [true], []), 3), ((5, 1, [], [true]), 2), ((2, 2, [false], [false]), 0), ((2, 3, [], [false, true]), 1), ((2, 3, [true, false], []), 1), ((2, 4, [false], [false]), 2), ((2, 5, [], [false, true]), 1), ((2, 5, [true, false], []), 1), ((3, 2, [], [true, false]), 1), ((3, 2, [false, true], []), 1), ((3, 3, [true], [true]), 0), ((3, 3, [false, true], []), 1), ((3, 4, [], [true, false]), 3), ((3, 4, [false, true], []), 1), ((3, 5, [true], [true]), 2), ((3, 5, [false, true], []), 1), ((4, 2, [false], [false]), 2), ((4, 3, [], [false, true]), 1), ((4, 3, [true, false], []), 3), ((4, 4, [false], [false]), 2), ((4, 5, [], [false, true]), 3), ((4, 5, [true, false], []), 3), ((5, 2, [], [true, false]), 1), ((5, 2, [false, true], []), 3), ((5, 3, [true], [true]), 2), ((5, 3, [false, true], []), 3), ((5, 4, [], [true, false]), 3), ((5, 4, [false, true], []), 3), ((5, 5, [true], [true]), 2), ((5, 5, [false, true], []), 3)]
def tb10 : List (PS × Nat) := [((0, 0, [], []), 0), ((1, 1, [], []), 0), ((0, 2, [false], []), 0), ((0, 3, [], [true]), 1), ((0, 4, [false], []), 2), ((0, 5, [], [true]), 3), ((1, 2, [], [false]), 1), ((1, 3, [true], []), 0), ((1, 4, [], [false]), 3), ((1, 5, [true], []), 2), ((2, 0, [], [false]), 0), ((2, 1, [false], []), 1), ((3, 0, [], [false]), 0), ((3, 0, [true], []), 1), ((3, 1, [], [true]), 0), ((4, 0, [], [false]), 2), ((4, 1, [false], []), 3), ((5, 0, [], [false]), 0), ((5, 0, [true], []), 1), ((5, 1, [], [true]), 2), ((2, 2, [false], [false]), 0), ((2, 3, [], [false, true]), 1), ((2, 3, [true, false], []), 1), ((2, 4, [false], [false]), 2), ((2, 5, [], [false, true]), 3), ((2, 5, [true, false], []), 1), ((3, 2, [], [true, false]), 1), ((3, 2, [false, true], []), 1), ((3, 3, [], [false, true]), 1), ((3, 3, [true], [true]), 0), ((3, 4, [], [true, false]), 3), ((3, 4, [false, true], []), 1), ((3, 5, [], [false, true]), 3), ((3, 5, [true], [true]), 2), ((4, 2, [false], [false]), 2), ((4, 3, [], [false, true]), 1), ((4, 3, [true, false], []), 3), ((4, 4, [false], [false]), 2), ((4, 5, [], [false, true]), 3), ((4, 5, [true, false], []), 3), ((5, 2, [], [true, false]), 1), ((5, 2, [false, true], []), 1), ((5, 3, [], [false, true]), 1), ((5, 3, [true], [true]), 2), ((5, 4, [], [true, false]), 3), ((5, 4, [false, true], []), 3), ((5, 5, [], [false, true]), 3), ((5, 5, [true], [true]), 2)]
def tb11 : List (PS × Nat) := [((0, 0, [], []), 0), ((1, 1, [], []), 0), ((0, 2, [false], []), 0), ((0, 3, [], [true]), 1), ((0, 4, [false], []), 2), ((0, 5, [], [true]), 3), ((1, 2, [], [false]), 1), ((1, 3, [true], []), 0), ((1, 4, [], [false]), 3), ((1, 5, [true], []), 2), ((2, 0, [], [false]), 0), ((2, 1, [false], []), 1), ((3, 0, [true], []), 1), ((3, 1, [], [true]), 0), ((4, 0, [], [false]), 2), ((4, 1, [false], []), 3), ((5, 0, [true], []), 3), ((5, 1, [], [true]), 2), ((2, 2, [false], [false]), 0), ((2, 3, [], [false, true]), 1), ((2, 3, [true, false], []), 1), ((2, 4, [false], [false]), 2), ((2, 5, [], [false, true]), 3), ((2, 5, [true, false], []), 1), ((3, 2, [], [true, false]), 1), ((3, 2, [false, true], []), 1), ((3, 3, [true], [true]), 0), ((3, 4, [], [true, false]), 3), ((3, 4, [false, true], []), 1), ((3, 5, [true], [true]), 2), ((4, 2, [false], [false]), 2), ((4, 3, [], [false, true]), 1), ((4, 3, [true, false], []), 3), ((4, 4, [false], [false]), 2), ((4, 5, [], [false, true]), 3), ((4, 5, [true, false], []), 3), ((5, 2, [], [true, false]), 1), ((5, 2, [false, true], []), 3), ((5, 3, [true], [true]), 2), ((5, 4, [], [true, false]), 3), ((5, 4, [false, true], []), 3), ((5, 5, [true], [true]), 2)]
/-- The states that can be, each with how many words are still said. -/
def tb (mp mq : Bool) : List (PS × Nat) := match mp, mq with | false, false => tb00 | false, true => tb01 | true, false => tb10 | true, true => tb11
def lk (t : List (PS × Nat)) (s : PS) : Option Nat := (t.find? fun e => e.1 == s).map (·.2)
theorem lk_mem {t : List (PS × Nat)} {s : PS} {k : Nat} (h : lk t s = some k) : (s, k) ∈ t := by
  unfold lk at h
  obtain ⟨e, he, rfl⟩ := Option.map_eq_some_iff.1 h
  have h1 := List.mem_of_find?_eq_some he
  have h2 := List.find?_some he
  have h3 : e.1 = s := by simpa using h2
  rw [← h3]
  exact h1
def on2 (m x : Bool) (s : Nat) : Nat × Nat := if x then onS m s else offS s
def want2 (x : Bool) (s : Nat) : Nat × Nat × Nat := if x then wantOnS s else wantOffS s
def wd (w : Nat) : List Bool := if w = 0 then [] else [w == 1]
def comeP (m : Bool) (s : PS) (x : Bool) (t : List Bool) : PS := ((on2 m x s.1).1, s.2.1, s.2.2.1 ++ wd (on2 m x s.1).2, t)
def wishP (s : PS) (x : Bool) : PS := ((want2 x s.1).1, s.2.1, s.2.2.1 ++ wd (want2 x s.1).2.1, s.2.2.2)
def mirror (s : PS) : PS := (s.2.1, s.1, s.2.2.2, s.2.2.1)
def okCome (mp mq : Bool) : Bool := (tb mp mq).all fun e => match e.1.2.2.2 with
  | [] => true
  | x :: t => match lk (tb mp mq) (comeP mp e.1 x t) with
    | some k => decide (k + (wd (on2 mp x e.1.1).2).length ≤ e.2)
    | none => false
def okWish (mp mq : Bool) : Bool := (tb mp mq).all fun e => [true, false].all fun x => match lk (tb mp mq) (wishP e.1 x) with
    | some k => decide (k + (wd (want2 x e.1.1).2.1).length ≤ e.2 + 2)
    | none => false
def okSym (mp mq : Bool) : Bool := (tb mp mq).all fun e => lk (tb mq mp) (mirror e.1) == some e.2
def okRest (mp mq : Bool) : Bool := (tb mp mq).all fun e => !(e.1.2.2.1 == [] && e.1.2.2.2 == []) || (e.1.1 == e.1.2.1 && decide (e.1.1 ≤ 1))
def okLe (mp mq : Bool) : Bool := (tb mp mq).all fun e => decide (e.1.1 ≤ 5)
theorem okCome_all : ∀ mp mq, okCome mp mq = true := by decide +kernel
theorem okWish_all : ∀ mp mq, okWish mp mq = true := by decide +kernel
theorem okSym_all : ∀ mp mq, okSym mp mq = true := by decide +kernel
theorem okRest_all : ∀ mp mq, okRest mp mq = true := by decide +kernel
theorem okLe_all : ∀ mp mq, okLe mp mq = true := by decide +kernel
theorem lk_zero : ∀ mp mq, lk (tb mp mq) (0, 0, [], []) = some 0 := by decide +kernel
section
variable {mp mq : Bool} {s : PS} {k : Nat}
theorem come_ok (h : lk (tb mp mq) s = some k) {x : Bool} {t : List Bool} (hx : s.2.2.2 = x :: t) : ∃ k', lk (tb mp mq) (comeP mp s x t) = some k' ∧ k' + (wd (on2 mp x s.1).2).length ≤ k := by
  have := List.all_eq_true.1 (okCome_all mp mq) _ (lk_mem h)
  simp only [hx] at this
  cases hl : lk (tb mp mq) (comeP mp s x t) with
  | none => rw [hl] at this; cases this
  | some k' => rw [hl] at this; exact ⟨k', rfl, by simpa using this⟩
theorem wish_ok (h : lk (tb mp mq) s = some k) (x : Bool) : ∃ k', lk (tb mp mq) (wishP s x) = some k' ∧ k' + (wd (want2 x s.1).2.1).length ≤ k + 2 := by
  have := List.all_eq_true.1 (List.all_eq_true.1 (okWish_all mp mq) _ (lk_mem h)) x (by cases x <;> simp)
  simp only at this
  cases hl : lk (tb mp mq) (wishP s x) with
  | none => rw [hl] at this; cases this
  | some k' => rw [hl] at this; exact ⟨k', rfl, by simpa using this⟩
theorem sym_ok (h : lk (tb mp mq) s = some k) : lk (tb mq mp) (mirror s) = some k := by
  have := List.all_eq_true.1 (okSym_all mp mq) _ (lk_mem h)
  simpa using this
theorem rest_ok (h : lk (tb mp mq) s = some k) (h1 : s.2.2.1 = []) (h2 : s.2.2.2 = []) : s.1 = s.2.1 ∧ s.1 ≤ 1 := by
  have := List.all_eq_true.1 (okRest_all mp mq) _ (lk_mem h)
  simp only [h1, h2] at this
  simpa using this
theorem le_ok (h : lk (tb mp mq) s = some k) : s.1 ≤ 5 := by
  have := List.all_eq_true.1 (okLe_all mp mq) _ (lk_mem h)
  simpa using this
end

/-! ### All options -/
/-- A word: its verb, its option. -/
abbrev Wd := Int × Nat
def ixb (r : Bool) (o : Nat) : Nat := if r then 256 + o else 768 + o
def mxb (r : Bool) (o : Nat) : Nat := if r then o else 512 + o
theorem ixb_inj {r r' : Bool} {o o' : Nat} (h : o < 256) (h' : o' < 256) (e : ixb r o = ixb r' o') : r = r' ∧ o = o' := by
  unfold ixb at e
  cases r <;> cases r' <;> simp at e ⊢ <;> omega
def sideW (w : Wd) : Bool := decide (253 ≤ w.1)
def isOn (w : Wd) : Bool := decide (w.1 = 251 ∨ w.1 = 253)
def flt (r : Bool) (o : Nat) (L : List Wd) : List Bool := (L.filter fun w => sideW w == r && w.2 == o).map isOn
theorem flt_append (r : Bool) (o : Nat) (A B : List Wd) : flt r o (A ++ B) = flt r o A ++ flt r o B := by simp [flt]
theorem flt_cons_same (w : Wd) (L : List Wd) : flt (sideW w) w.2 (w :: L) = isOn w :: flt (sideW w) w.2 L := by simp [flt]
theorem flt_cons_other {r : Bool} {o : Nat} (w : Wd) (L : List Wd) (h : ¬ (sideW w = r ∧ w.2 = o)) : flt r o (w :: L) = flt r o L := by
  unfold flt
  rw [List.filter_cons_of_neg]
  simpa using h
def saidW (r : Bool) (w o : Nat) : List Wd := if w = 0 then [] else [((if r then 250 else 252) + (w : Int), o)]
theorem saidW_length (r : Bool) (w o : Nat) : (saidW r w o).length = (wd w).length := by unfold saidW wd; split <;> rfl
theorem flt_said_same (r : Bool) (w o : Nat) (hw : w ≤ 2) : flt (!r) o (saidW r w o) = wd w := by
  have : w = 0 ∨ w = 1 ∨ w = 2 := by omega
  rcases this with rfl | rfl | rfl <;> cases r <;> simp [flt, saidW, wd, sideW, isOn]
theorem flt_said_other {r r' : Bool} {o o' : Nat} (w : Nat) (hw : w ≤ 2) (h : ¬ (r' = r ∧ o' = o)) : flt (!r) o (saidW r' w o') = [] := by
  unfold saidW
  split
  · rfl
  · rw [flt_cons_other]
    · rfl
    · have : w = 1 ∨ w = 2 := by omega
      rcases this with rfl | rfl <;> cases r <;> cases r' <;> simp [sideW] at h ⊢ <;> omega
theorem saidW_ok (r : Bool) (w o : Nat) (hw : w ≤ 2) (ho : o < 256) : ∀ x ∈ saidW r w o, 251 ≤ x.1 ∧ x.1 ≤ 254 ∧ x.2 < 256 := by
  intro x hx
  unfold saidW at hx
  split at hx
  · cases hx
  · rw [List.mem_singleton.1 hx]
    cases r <;> simp <;> omega
/-- The two sides, and the words on their way. -/
structure Net where
  MA : Nat → Bool
  MB : Nat → Bool
  SA : Nat → Nat
  SB : Nat → Nat
  ab : List Wd
  ba : List Wd
def Net.swap (N : Net) : Net := ⟨N.MB, N.MA, N.SB, N.SA, N.ba, N.ab⟩
def Net.pr (N : Net) (r : Bool) (o : Nat) : PS := (N.SA (ixb r o), N.SB (ixb (!r) o), flt (!r) o N.ab, flt r o N.ba)
def Net.tb (N : Net) (r : Bool) (o : Nat) : List (PS × Nat) := Opt.tb (N.MA (mxb r o)) (N.MB (mxb (!r) o))
def WdOk (w : Wd) : Prop := 251 ≤ w.1 ∧ w.1 ≤ 254 ∧ w.2 < 256
structure Net.Good (N : Net) : Prop where
  st : ∀ r o, o < 256 → ∃ k, lk (N.tb r o) (N.pr r o) = some k
  wa : ∀ w ∈ N.ab, WdOk w
  wb : ∀ w ∈ N.ba, WdOk w
def Net.v (N : Net) (r : Bool) (o : Nat) : Nat := (lk (N.tb r o) (N.pr r o)).getD 0
def Net.F (N : Net) : Nat := ((List.range 256).map (N.v true)).sum + ((List.range 256).map (N.v false)).sum
theorem sum_same (f g : Nat → Nat) (n : Nat) (h : ∀ j, j < n → g j = f j) : ((List.range n).map g).sum = ((List.range n).map f).sum := by
  congr 1
  apply List.map_congr_left
  intro j hj
  exact h j (by simpa using hj)
theorem sum_upd (f g : Nat → Nat) (n i : Nat) (hi : i < n) (h : ∀ j, j < n → j ≠ i → g j = f j) : ((List.range n).map g).sum + f i = ((List.range n).map f).sum + g i := by
  induction n with
  | zero => omega
  | succ n ih =>
    rw [List.range_succ, List.map_append, List.map_append, List.sum_append, List.sum_append]
    simp only [List.map_cons, List.map_nil, List.sum_cons, List.sum_nil]
    by_cases e : i = n
    · subst e
      have := sum_same f g i (fun j hj => h j (by omega) (by omega))
      omega
    · have h1 := ih (by omega) (fun j hj hne => h j (by omega) hne)
      have h2 := h n (by omega) (by omega)
      omega
/-- One option of one side alone turned. -/
theorem Net.F_upd {N N' : Net} (r : Bool) (o : Nat) (ho : o < 256) (h : ∀ r' o', o' < 256 → ¬ (r' = r ∧ o' = o) → N'.v r' o' = N.v r' o') : N'.F + N.v r o = N.F + N'.v r o := by
  unfold Net.F
  cases r
  · have h1 := sum_same (N.v true) (N'.v true) 256 (fun j hj => h true j hj (by simp))
    have h2 := sum_upd (N.v false) (N'.v false) 256 o ho (fun j hj hne => h false j hj (by simp [hne]))
    omega
  · have h1 := sum_same (N.v false) (N'.v false) 256 (fun j hj => h false j hj (by simp))
    have h2 := sum_upd (N.v true) (N'.v true) 256 o ho (fun j hj hne => h true j hj (by simp [hne]))
    omega
theorem Net.Good.swap {N : Net} (h : N.Good) : N.swap.Good ∧ N.swap.F = N.F := by
  have key : ∀ r o, o < 256 → ∃ k, lk (N.tb r o) (N.pr r o) = some k ∧ lk (N.swap.tb (!r) o) (N.swap.pr (!r) o) = some k := by
    intro r o ho
    obtain ⟨k, hk⟩ := h.st r o ho
    refine ⟨k, hk, ?_⟩
    have := sym_ok hk
    unfold Net.tb Net.pr Net.swap
    rw [Bool.not_not]
    exact this
  refine ⟨⟨fun r o ho => ?_, h.wb, h.wa⟩, ?_⟩
  · obtain ⟨k, _, hk⟩ := key (!r) o ho
    rw [Bool.not_not] at hk
    exact ⟨k, hk⟩
  · have hv : ∀ r o, o < 256 → N.swap.v (!r) o = N.v r o := by
      intro r o ho
      obtain ⟨k, h1, h2⟩ := key r o ho
      unfold Net.v
      rw [h1, h2]
    unfold Net.F
    rw [sum_same (N.v false) (N.swap.v true) 256 (fun j hj => hv false j hj), sum_same (N.v true) (N.swap.v false) 256 (fun j hj => hv true j hj)]
    omega
theorem on2_word (m x : Bool) (s : Nat) : (on2 m x s).2 ≤ 2 := by
  unfold on2; split
  · exact onS_word m s
  · exact offS_word s
theorem want2_word (x : Bool) (s : Nat) : (want2 x s).2.1 ≤ 2 := by
  unfold want2; split
  · exact wantOnS_word s
  · unfold wantOffS; split <;> simp
/-- What a side does with a word, and says. -/
def gotW (M : Nat → Bool) (S : Nat → Nat) (w : Wd) : (Nat → Nat) × List Wd :=
  (upd S (ixb (sideW w) w.2) (on2 (M (mxb (sideW w) w.2)) (isOn w) (S (ixb (sideW w) w.2))).1, saidW (sideW w) (on2 (M (mxb (sideW w) w.2)) (isOn w) (S (ixb (sideW w) w.2))).2 w.2)
def Net.toA (N : Net) (w : Wd) (t : List Wd) : Net := { N with SA := (gotW N.MA N.SA w).1, ab := N.ab ++ (gotW N.MA N.SA w).2, ba := t }
theorem upd_at (S : Nat → Nat) (i v : Nat) : upd S i v i = v := by simp [upd]
theorem upd_not (S : Nat → Nat) (i v j : Nat) (h : ¬ j = i) : upd S i v j = S j := by simp [upd, h]
theorem Net.Good.toA {N : Net} (h : N.Good) {w : Wd} {t : List Wd} (hb : N.ba = w :: t) : (N.toA w t).Good ∧ (N.toA w t).F + (gotW N.MA N.SA w).2.length ≤ N.F := by
  have hw : WdOk w := h.wb w (by rw [hb]; simp)
  obtain ⟨r, hr⟩ : ∃ r, r = sideW w := ⟨_, rfl⟩
  have ho : w.2 < 256 := hw.2.2
  obtain ⟨k, hk⟩ := h.st r w.2 ho
  have hp : (N.pr r w.2).2.2.2 = isOn w :: flt r w.2 t := by
    show flt r w.2 N.ba = _
    rw [hb, hr, flt_cons_same]
  obtain ⟨k', hk', hle⟩ := come_ok hk hp
  have hsame : (N.toA w t).pr r w.2 = comeP (N.MA (mxb r w.2)) (N.pr r w.2) (isOn w) (flt r w.2 t) := by
    subst hr
    unfold Net.toA Net.pr comeP gotW
    simp only
    rw [upd_at, flt_append, flt_said_same _ _ _ (on2_word _ _ _)]
  have hother : ∀ r' o', o' < 256 → ¬ (r' = r ∧ o' = w.2) → (N.toA w t).pr r' o' = N.pr r' o' := by
    intro r' o' ho' hne
    subst hr
    unfold Net.toA Net.pr gotW
    simp only
    rw [upd_not _ _ _ _ (fun e => hne (ixb_inj ho' ho e)), flt_append, flt_said_other _ (on2_word _ _ _) (fun e => hne ⟨e.1.symm, e.2.symm⟩), List.append_nil, hb, flt_cons_other w t (fun e => hne ⟨e.1.symm, e.2.symm⟩)]
  refine ⟨⟨fun r' o' ho' => ?_, fun x hx => ?_, fun x hx => h.wb x (by rw [hb]; exact List.mem_cons_of_mem _ hx)⟩, ?_⟩
  · by_cases e : r' = r ∧ o' = w.2
    · obtain ⟨rfl, rfl⟩ := e
      exact ⟨k', by rw [hsame]; exact hk'⟩
    · rw [hother r' o' ho' e]
      exact h.st r' o' ho'
  · rcases List.mem_append.1 hx with hx | hx
    · exact h.wa x hx
    · exact saidW_ok _ _ _ (on2_word _ _ _) ho x hx
  · have h1 := Net.F_upd (N := N) (N' := N.toA w t) r w.2 ho (fun r' o' ho' hne => by unfold Net.v; rw [hother r' o' ho' hne]; rfl)
    have h2 : N.v r w.2 = k := by unfold Net.v; rw [hk]; rfl
    have h3 : (N.toA w t).v r w.2 = k' := by unfold Net.v; rw [hsame]; show (lk (N.tb r w.2) _).getD 0 = k'; rw [show N.tb r w.2 = Opt.tb _ _ from rfl, hk']; rfl
    have h4 : (gotW N.MA N.SA w).2.length = (wd (on2 (N.MA (mxb r w.2)) (isOn w) (N.pr r w.2).1).2).length := by subst hr; exact saidW_length _ _ _
    omega
/-- What a side does when something is wanted. -/
def wantW (S : Nat → Nat) (w : Wd) : (Nat → Nat) × List Wd :=
  (upd S (ixb (!sideW w) w.2) (want2 (isOn w) (S (ixb (!sideW w) w.2))).1, saidW (!sideW w) (want2 (isOn w) (S (ixb (!sideW w) w.2))).2.1 w.2)
def Net.wishA (N : Net) (w : Wd) : Net := { N with SA := (wantW N.SA w).1, ab := N.ab ++ (wantW N.SA w).2 }
theorem Net.Good.wishA {N : Net} (h : N.Good) (w : Wd) (ho : w.2 < 256) : (N.wishA w).Good ∧ (N.wishA w).F + (wantW N.SA w).2.length ≤ N.F + 2 := by
  obtain ⟨r, hr⟩ : ∃ r, r = !sideW w := ⟨_, rfl⟩
  obtain ⟨k, hk⟩ := h.st r w.2 ho
  obtain ⟨k', hk', hle⟩ := wish_ok hk (isOn w)
  have hsame : (N.wishA w).pr r w.2 = wishP (N.pr r w.2) (isOn w) := by
    subst hr
    unfold Net.wishA Net.pr wishP wantW
    simp only
    rw [upd_at, flt_append, flt_said_same _ _ _ (want2_word _ _)]
  have hother : ∀ r' o', o' < 256 → ¬ (r' = r ∧ o' = w.2) → (N.wishA w).pr r' o' = N.pr r' o' := by
    intro r' o' ho' hne
    subst hr
    unfold Net.wishA Net.pr wantW
    simp only
    rw [upd_not _ _ _ _ (fun e => hne (ixb_inj ho' ho e)), flt_append, flt_said_other _ (want2_word _ _) (fun e => hne ⟨e.1.symm, e.2.symm⟩), List.append_nil]
  refine ⟨⟨fun r' o' ho' => ?_, fun x hx => ?_, h.wb⟩, ?_⟩
  · by_cases e : r' = r ∧ o' = w.2
    · obtain ⟨rfl, rfl⟩ := e
      exact ⟨k', by rw [hsame]; exact hk'⟩
    · rw [hother r' o' ho' e]
      exact h.st r' o' ho'
  · rcases List.mem_append.1 hx with hx | hx
    · exact h.wa x hx
    · exact saidW_ok _ _ _ (want2_word _ _) ho x hx
  · have h1 := Net.F_upd (N := N) (N' := N.wishA w) r w.2 ho (fun r' o' ho' hne => by unfold Net.v; rw [hother r' o' ho' hne]; rfl)
    have h2 : N.v r w.2 = k := by unfold Net.v; rw [hk]; rfl
    have h3 : (N.wishA w).v r w.2 = k' := by unfold Net.v; rw [hsame]; show (lk (N.tb r w.2) _).getD 0 = k'; rw [show N.tb r w.2 = Opt.tb _ _ from rfl, hk']; rfl
    have h4 : (wantW N.SA w).2.length = (wd (want2 (isOn w) (N.pr r w.2).1).2.1).length := by subst hr; exact saidW_length _ _ _
    omega
/-- At the beginning. -/
theorem Net.good0 (MA MB : Nat → Bool) : (⟨MA, MB, fun _ => 0, fun _ => 0, [], []⟩ : Net).Good ∧ (⟨MA, MB, fun _ => 0, fun _ => 0, [], []⟩ : Net).F = 0 := by
  have h : ∀ r o, lk ((⟨MA, MB, fun _ => 0, fun _ => 0, [], []⟩ : Net).tb r o) ((⟨MA, MB, fun _ => 0, fun _ => 0, [], []⟩ : Net).pr r o) = some 0 := fun r o => lk_zero _ _
  refine ⟨⟨fun r o _ => ⟨0, h r o⟩, by simp, by simp⟩, ?_⟩
  have hv : ∀ r j, (⟨MA, MB, fun _ => 0, fun _ => 0, [], []⟩ : Net).v r j = 0 := fun r j => by unfold Net.v; rw [h]; rfl
  have h0 : ∀ n : Nat, ((List.range n).map fun _ => 0).sum = 0 := fun n => by induction n with
    | zero => rfl
    | succ n ih => rw [List.range_succ, List.map_append, List.sum_append, ih]; rfl
  unfold Net.F
  rw [sum_same (fun _ => 0) _ 256 (fun j _ => hv true j), sum_same (fun _ => 0) _ 256 (fun j _ => hv false j), h0]
/-- At rest both agree. -/
theorem Net.Good.rest {N : Net} (h : N.Good) (ha : N.ab = []) (hb : N.ba = []) (r : Bool) (o : Nat) (ho : o < 256) : N.SA (ixb r o) = N.SB (ixb (!r) o) ∧ N.SA (ixb r o) ≤ 1 := by
  obtain ⟨k, hk⟩ := h.st r o ho
  exact rest_ok hk (by show flt _ _ N.ab = _; rw [ha]; rfl) (by show flt _ _ N.ba = _; rw [hb]; rfl)
theorem Net.Good.le5 {N : Net} (h : N.Good) (r : Bool) (o : Nat) (ho : o < 256) : N.SA (ixb r o) ≤ 5 := by
  obtain ⟨k, hk⟩ := h.st r o ho
  exact le_ok hk

/-! ### The words as bytes -/
def flatW (L : List Wd) : List Int := L.flatMap fun w => [255, w.1, (w.2 : Int)]
theorem flatW_append (A B : List Wd) : flatW (A ++ B) = flatW A ++ flatW B := by simp [flatW]
theorem flatW_length (L : List Wd) : (flatW L).length = 3 * L.length := by
  induction L with
  | nil => rfl
  | cons w L ih => have : flatW (w :: L) = [255, w.1, (w.2 : Int)] ++ flatW L := by simp [flatW]
                   rw [this, List.length_append, ih]; simp; omega
theorem flat_said (r : Bool) (w o : Nat) : flatW (saidW r w o) = sayL r w o := by
  unfold saidW sayL flatW
  split
  · rfl
  · cases r <;> simp
theorem gotS_W (M : Nat → Bool) (S : Nat → Nat) (w : Wd) (h : WdOk w) : gotS M S w.1 w.2 = ((gotW M S w).1, flatW (gotW M S w).2) := by
  obtain ⟨c, o⟩ := w
  obtain ⟨h1, h2, _⟩ := h
  simp only at h1 h2
  unfold gotW
  simp only
  rw [flat_said]
  have : c = 251 ∨ c = 252 ∨ c = 253 ∨ c = 254 := by omega
  rcases this with rfl | rfl | rfl | rfl <;> rfl
theorem wantS_W (S : Nat → Nat) (w : Wd) (h1 : 251 ≤ w.1) (h2 : w.1 ≤ 254) : ∃ e, wantS S w.1 w.2 = ((wantW S w).1, flatW (wantW S w).2, e) := by
  obtain ⟨c, o⟩ := w
  simp only at h1 h2
  unfold wantW
  simp only
  rw [flat_said]
  have : c = 251 ∨ c = 252 ∨ c = 253 ∨ c = 254 := by omega
  rcases this with rfl | rfl | rfl | rfl <;> exact ⟨_, rfl⟩
/-- Words that come one after the other. -/
def Net.allA : Net → List Wd → Net
  | N, [] => N
  | N, w :: t => (N.toA w t).allA t
theorem Net.allA_ba : ∀ (t : List Wd) (N : Net), N.ba = t → (N.allA t).ba = [] ∧ (N.allA t).SB = N.SB ∧ (N.allA t).MA = N.MA ∧ (N.allA t).MB = N.MB := by
  intro t
  induction t with
  | nil => intro N h; exact ⟨h, rfl, rfl, rfl⟩
  | cons w t ih => intro N h; exact ih (N.toA w t) rfl
theorem Net.Good.allA : ∀ (t : List Wd) (N : Net), N.Good → N.ba = t → (N.allA t).Good ∧ (N.allA t).F + (N.allA t).ab.length ≤ N.F + N.ab.length := by
  intro t
  induction t with
  | nil => intro N h _; exact ⟨h, Nat.le_refl _⟩
  | cons w t ih =>
    intro N h hb
    obtain ⟨h1, h2⟩ := h.toA hb
    obtain ⟨h3, h4⟩ := ih (N.toA w t) h1 rfl
    refine ⟨h3, ?_⟩
    have h5 : (N.toA w t).ab.length = N.ab.length + (gotW N.MA N.SA w).2.length := by show (N.ab ++ _).length = _; rw [List.length_append]
    show ((N.toA w t).allA t).F + ((N.toA w t).allA t).ab.length ≤ _
    omega
end Go.Proofs.Ytkolhjglehnigaa.Opt
