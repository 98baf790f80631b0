/-
  Rows of orders, plainly: cut in two; what is done up to an error.
-/
import Derived.Test.YtglkjcdbffkbcaaPaI
namespace Go.Proofs.Ytglkjcdbffkbcaa.Pl
open Go.RowKit Go.Shelf Base
set_option linter.unusedVariables false
set_option linter.unusedSimpArgs false

/-- The same cells, cursor and place. -/
def Alike (s t : Bs) : Prop := s.M = t.M ∧ s.cur = t.cur ∧ s.p = t.p
theorem deedB_err {B : Bs} {o : Or} (h : (deedB B o).2 ≠ 0) : (deedB B o).1 = B := by
  have key : (deedB B o).2 = 0 ∨ (deedB B o).1 = B := by
    unfold deedB
    by_cases k0 : o.kind = 0
    · rw [if_pos k0]; exact .inl rfl
    rw [if_neg k0]
    by_cases k5 : o.kind = 5
    · rw [if_pos k5]; exact .inl rfl
    rw [if_neg k5]
    by_cases k8 : o.kind = 8
    · rw [if_pos k8]; exact .inl rfl
    rw [if_neg k8]
    by_cases k17 : o.kind = 17
    · rw [if_pos k17]
      by_cases hc : hasL B.M o.addr = true
      · rw [if_pos hc]; exact .inl rfl
      · rw [if_neg hc]; exact .inr rfl
    rw [if_neg k17]
    by_cases k18 : o.kind = 18
    · rw [if_pos k18]
      by_cases hc : hasL B.M o.addr = true
      · rw [if_pos hc]; exact .inl rfl
      · rw [if_neg hc]; exact .inr rfl
    rw [if_neg k18]
    by_cases k19 : o.kind = 19
    · rw [if_pos k19]; exact .inl rfl
    rw [if_neg k19]
    by_cases k29 : o.kind = 29
    · rw [if_pos k29]; exact .inl rfl
    rw [if_neg k29]
    by_cases k41 : o.kind = 41
    · rw [if_pos k41]; exact .inl rfl
    rw [if_neg k41]
    by_cases k40 : o.kind = 40
    · rw [if_pos k40]; exact .inl rfl
    rw [if_neg k40]
    by_cases k44 : o.kind = 44
    · rw [if_pos k44]
      by_cases hc : (atL B.M B.p).st = true
      · rw [if_pos hc]; exact .inl rfl
      · rw [if_neg hc]; exact .inr rfl
    rw [if_neg k44]
    by_cases k60 : o.kind = 60
    · rw [if_pos k60]
      by_cases hc : hasL B.M o.addr = true
      · rw [if_pos hc]; exact .inl rfl
      · rw [if_neg hc]; exact .inr rfl
    rw [if_neg k60]
    exact .inr rfl
  rcases key with h' | h'
  · exact absurd h' h
  · exact h'
theorem doB_err {B : Bs} {o : Or} (h : (doB B o).2 ≠ 0) : Alike (doB B o).1 B := by
  unfold doB at h ⊢
  split
  · next hk =>
    rw [if_pos hk] at h
    have := deedB_err h
    show (deedB B o).1.M = B.M ∧ (deedB B o).1.cur = B.cur ∧ (deedB B o).1.p = B.p
    rw [this]; exact ⟨rfl, rfl, rfl⟩
  · exact ⟨rfl, rfl, rfl⟩
/-- What the brush holds but whether signs were laid. -/
def Sim (s t : Bs) : Prop := s.M = t.M ∧ s.cur = t.cur ∧ s.p = t.p ∧ s.look = t.look
theorem Sim.lay {s t : Bs} (h : Sim s t) (x : Cl) : Sim (s.lay x) (t.lay x) := by
  obtain ⟨h1, h2, h3, h4⟩ := h
  unfold Sim Bs.lay
  rw [h1, h2, h3, h4]; exact ⟨rfl, rfl, rfl, rfl⟩
theorem Sim.chr {s t : Bs} (h : Sim s t) (y : Int) (ge : Bool) : s.chr y ge = t.chr y ge := by
  unfold Bs.chr; rw [h.2.2.2]
theorem Sim.data (d : List Int) : ∀ {s t : Bs}, Sim s t → Sim (s.data d) (t.data d) := by
  induction d with
  | nil => intro s t h; exact h
  | cons y d ih => intro s t h; show Sim ((s.lay (s.chr y false)).data d) ((t.lay (t.chr y false)).data d); rw [h.chr]; exact ih (h.lay _)
theorem Sim.deed {s t : Bs} (h : Sim s t) {o : Or} (hk : o.kind ≠ 5) : Sim (deedB s o).1 (deedB t o).1 ∧ (deedB s o).2 = (deedB t o).2 := by
  have hh := h
  obtain ⟨h1, h2, h3, h4⟩ := h
  unfold deedB
  by_cases k0 : o.kind = 0
  · rw [if_pos k0, if_pos k0]; exact ⟨hh.data _, rfl⟩
  rw [if_neg k0, if_neg k0, if_neg hk, if_neg hk]
  by_cases k8 : o.kind = 8
  · rw [if_pos k8, if_pos k8, hh.chr]; exact ⟨hh.lay _, rfl⟩
  rw [if_neg k8, if_neg k8, h1]
  by_cases k17 : o.kind = 17
  · rw [if_pos k17, if_pos k17]
    by_cases hc : hasL t.M o.addr = true
    · rw [if_pos hc, if_pos hc]; exact ⟨⟨rfl, h2, rfl, h4⟩, rfl⟩
    · rw [if_neg hc, if_neg hc]; exact ⟨hh, rfl⟩
  rw [if_neg k17, if_neg k17]
  by_cases k18 : o.kind = 18
  · rw [if_pos k18, if_pos k18]
    by_cases hc : hasL t.M o.addr = true
    · rw [if_pos hc, if_pos hc]
      refine ⟨⟨?_, h2, rfl, h4⟩, rfl⟩
      show (eraL s.M s.opn _).1 = (eraL t.M t.opn _).1
      unfold Bs.opn
      rw [h1, h3]
    · rw [if_neg hc, if_neg hc]; exact ⟨hh, rfl⟩
  rw [if_neg k18, if_neg k18]
  by_cases k19 : o.kind = 19
  · rw [if_pos k19, if_pos k19]; exact ⟨⟨rfl, h3, h3, h4⟩, rfl⟩
  rw [if_neg k19, if_neg k19]
  by_cases k29 : o.kind = 29
  · rw [if_pos k29, if_pos k29]; exact ⟨hh.lay _, rfl⟩
  rw [if_neg k29, if_neg k29]
  by_cases k41 : o.kind = 41
  · rw [if_pos k41, if_pos k41]; exact ⟨hh.lay _, rfl⟩
  rw [if_neg k41, if_neg k41]
  by_cases k40 : o.kind = 40
  · rw [if_pos k40, if_pos k40]; exact ⟨⟨rfl, h2, h3, by show dressP s.look _ = dressP t.look _; rw [h4]⟩, rfl⟩
  rw [if_neg k40, if_neg k40, h3]
  by_cases k44 : o.kind = 44
  · rw [if_pos k44, if_pos k44]
    by_cases hc : (atL t.M t.p).st = true
    · rw [if_pos hc, if_pos hc]; exact ⟨hh.lay _, rfl⟩
    · rw [if_neg hc, if_neg hc]; exact ⟨hh, rfl⟩
  rw [if_neg k44, if_neg k44]
  by_cases k60 : o.kind = 60
  · rw [if_pos k60, if_pos k60]
    by_cases hc : hasL t.M o.addr = true
    · rw [if_pos hc, if_pos hc]
      refine ⟨⟨?_, h2, rfl, h4⟩, rfl⟩
      show fillL s.M _ (s.chr o.byte o.ge) = fillL t.M _ (t.chr o.byte o.ge)
      rw [hh.chr, h1, h3]
    · rw [if_neg hc, if_neg hc]; exact ⟨hh, rfl⟩
  rw [if_neg k60, if_neg k60]
  exact ⟨hh, rfl⟩
theorem Sim.do {s t : Bs} (h : Sim s t) {o : Or} (hk : o.kind ≠ 5) : Sim (doB s o).1 (doB t o).1 ∧ (doB s o).2 = (doB t o).2 := by
  obtain ⟨h1, h2⟩ := h.deed hk
  unfold doB
  split
  · exact ⟨h1, h2⟩
  · exact ⟨h, rfl⟩
theorem Sim.run : ∀ (os : List Or) {s t : Bs} (i j : Nat), Sim s t → (∀ o ∈ os, o.kind ≠ 5) → Sim (runB s os i).1 (runB t os j).1 ∧ (runB s os i).2.1 + j = (runB t os j).2.1 + i ∧ (runB s os i).2.2 = (runB t os j).2.2
  | [], s, t, i, j, h, _ => ⟨h, Nat.add_comm _ _, rfl⟩
  | o :: os, s, t, i, j, h, hk => by
    obtain ⟨h1, h2⟩ := h.do (hk o (by simp))
    unfold runB
    rw [h2]
    by_cases he : (doB t o).2 = 0
    · rw [if_pos he, if_pos he]
      obtain ⟨g1, g2, g3⟩ := Sim.run os (i + 1) (j + 1) h1 (fun o ho => hk o (List.mem_cons_of_mem _ ho))
      exact ⟨g1, by omega, g3⟩
    · rw [if_neg he, if_neg he]
      exact ⟨h1, Nat.add_comm _ _, rfl⟩
theorem Sim.refl (s : Bs) : Sim s s := ⟨rfl, rfl, rfl, rfl⟩
/-- The look stays where no SA is. -/
theorem data_look (d : List Int) : ∀ (B : Bs), (B.data d).look = B.look := by
  induction d with
  | nil => intro B; rfl
  | cons y d ih => intro B; exact ih (B.lay (B.chr y false))
theorem doB_look {B : Bs} {o : Or} (hk : o.kind ≠ 40) : (doB B o).1.look = B.look := by
  unfold doB
  split
  · show (deedB B o).1.look = B.look
    unfold deedB
    by_cases k0 : o.kind = 0
    · rw [if_pos k0]; exact data_look _ _
    rw [if_neg k0]
    by_cases k5 : o.kind = 5
    · rw [if_pos k5]; rfl
    rw [if_neg k5]
    by_cases k8 : o.kind = 8
    · rw [if_pos k8]; rfl
    rw [if_neg k8]
    by_cases k17 : o.kind = 17
    · rw [if_pos k17]
      by_cases hc : hasL B.M o.addr = true
      · rw [if_pos hc]
      · rw [if_neg hc]
    rw [if_neg k17]
    by_cases k18 : o.kind = 18
    · rw [if_pos k18]
      by_cases hc : hasL B.M o.addr = true
      · rw [if_pos hc]; rfl
      · rw [if_neg hc]
    rw [if_neg k18]
    by_cases k19 : o.kind = 19
    · rw [if_pos k19]
    rw [if_neg k19]
    by_cases k29 : o.kind = 29
    · rw [if_pos k29]; rfl
    rw [if_neg k29]
    by_cases k41 : o.kind = 41
    · rw [if_pos k41]; rfl
    rw [if_neg k41, if_neg hk]
    by_cases k44 : o.kind = 44
    · rw [if_pos k44]
      by_cases hc : (atL B.M B.p).st = true
      · rw [if_pos hc]; rfl
      · rw [if_neg hc]
    rw [if_neg k44]
    by_cases k60 : o.kind = 60
    · rw [if_pos k60]
      by_cases hc : hasL B.M o.addr = true
      · rw [if_pos hc]; rfl
      · rw [if_neg hc]
    rw [if_neg k60]
  · rfl
theorem runB_look : ∀ (os : List Or) (B : Bs) (i : Nat), (∀ o ∈ os, o.kind ≠ 40) → (runB B os i).1.look = B.look
  | [], B, i, _ => rfl
  | o :: os, B, i, hk => by
    unfold runB
    split
    · rw [runB_look os _ _ (fun o ho => hk o (List.mem_cons_of_mem _ ho)), doB_look (hk o (by simp))]
    · exact doB_look (hk o (by simp))
theorem runB_cons (B : Bs) (o : Or) (os : List Or) (i : Nat) : runB B (o :: os) i = if (doB B o).2 = 0 then runB (doB B o).1 os (i + 1) else ((doB B o).1, i, (doB B o).2) := by rw [runB]
theorem runB_append : ∀ (xs bs : List Or) (B : Bs) (i : Nat), runB B (xs ++ bs) i = if (runB B xs i).2.2 = 0 then runB (runB B xs i).1 bs (runB B xs i).2.1 else runB B xs i
  | [], bs, B, i => by simp [runB]
  | o :: xs, bs, B, i => by
    rw [List.cons_append, runB_cons, runB_cons]
    by_cases he : (doB B o).2 = 0
    · rw [if_pos he, if_pos he]; exact runB_append xs bs _ _
    · rw [if_neg he, if_neg he, if_neg he]
theorem runB_all : ∀ (os : List Or) (B : Bs) (i : Nat), (runB B os i).2.1 ≤ i + os.length ∧ ((runB B os i).2.2 = 0 → (runB B os i).2.1 = i + os.length) ∧ i ≤ (runB B os i).2.1
  | [], B, i => ⟨by simp [runB], fun _ => by simp [runB], by simp [runB]⟩
  | o :: os, B, i => by
    unfold runB
    by_cases he : (doB B o).2 = 0
    · rw [if_pos he]
      obtain ⟨h1, h2, h3⟩ := runB_all os (doB B o).1 (i + 1)
      exact ⟨by simp; omega, fun h => by have := h2 h; simp; omega, by omega⟩
    · rw [if_neg he]
      exact ⟨by simp, fun h => absurd h he, Nat.le_refl _⟩
/-- What was done, alone. -/
theorem runB_done : ∀ (os : List Or) (B : Bs) (i : Nat), Alike (runB B (os.take ((runB B os i).2.1 - i)) i).1 (runB B os i).1 ∧ (runB B (os.take ((runB B os i).2.1 - i)) i).2.1 = (runB B os i).2.1 ∧ (runB B (os.take ((runB B os i).2.1 - i)) i).2.2 = 0
  | [], B, i => by simp [runB, Alike]
  | o :: os, B, i => by
    by_cases he : (doB B o).2 = 0
    · have e1 : runB B (o :: os) i = runB (doB B o).1 os (i + 1) := by rw [runB, if_pos he]
      have h3 := (runB_all os (doB B o).1 (i + 1)).2.2
      obtain ⟨g1, g2, g3⟩ := runB_done os (doB B o).1 (i + 1)
      rw [e1]
      obtain ⟨n, hn⟩ : ∃ n, n = (runB (doB B o).1 os (i + 1)).2.1 := ⟨_, rfl⟩
      rw [← hn] at h3 g1 g2 g3 ⊢
      have e2 : (o :: os).take (n - i) = o :: os.take (n - (i + 1)) := by
        rw [show n - i = (n - (i + 1)) + 1 by omega, List.take_succ_cons]
      have e3 : runB B (o :: os.take (n - (i + 1))) i = runB (doB B o).1 (os.take (n - (i + 1))) (i + 1) := by rw [runB, if_pos he]
      rw [e2, e3]
      exact ⟨g1, g2, g3⟩
    · have e1 : runB B (o :: os) i = ((doB B o).1, i, (doB B o).2) := by rw [runB, if_neg he]
      rw [e1]
      simp only [Nat.sub_self, List.take_zero, runB]
      obtain ⟨h1, h2, h3⟩ := doB_err he
      exact ⟨⟨h1.symm, h2.symm, h3.symm⟩, trivial, trivial⟩
/-- Orders cut in two. -/
theorem runB_cut {L : List Cl} {cur p : Int} (os : List Or) (k : Nat) (h1 : ∀ o ∈ os.take k, o.kind ≠ 40) (h2 : ∀ o ∈ os.drop k, o.kind ≠ 5) (A R : Bs × Nat × Int) (hA : A = runB ⟨L, cur, p, c0, false⟩ (os.take k) 0) (hR : R = runB ⟨L, cur, p, c0, false⟩ os 0) :
    (A.2.2 = 0 → ∀ Z, Z = runB ⟨A.1.M, A.1.cur, A.1.p, c0, false⟩ (os.drop k) 0 → Alike Z.1 R.1 ∧ A.2.1 + Z.2.1 = R.2.1 ∧ Z.2.2 = R.2.2) ∧ (A.2.2 ≠ 0 → A = R) := by
  have ha := runB_append (os.take k) (os.drop k) ⟨L, cur, p, c0, false⟩ 0
  rw [List.take_append_drop, ← hA, ← hR] at ha
  constructor
  · intro he Z hZ
    rw [if_pos he] at ha
    have hl : A.1.look = c0 := by rw [hA]; exact runB_look _ _ _ h1
    have hs : Sim A.1 ⟨A.1.M, A.1.cur, A.1.p, c0, false⟩ := ⟨rfl, rfl, rfl, hl⟩
    obtain ⟨⟨g1, g2, g3, _⟩, g5, g6⟩ := hs.run (os.drop k) A.2.1 0 h2
    rw [← hZ, ← ha] at g1 g2 g3 g5 g6
    exact ⟨⟨g1.symm, g2.symm, g3.symm⟩, by omega, g6.symm⟩
  · intro he
    rw [if_neg he] at ha
    exact ha.symm
def fewL (os : List Or) : Bool := (os.all fun o => decide (o.pairs.length ≤ 30) && decide (o.data.length ≤ 80)) && decide (os.length ≤ 20)
end Go.Proofs.Ytglkjcdbffkbcaa.Pl
