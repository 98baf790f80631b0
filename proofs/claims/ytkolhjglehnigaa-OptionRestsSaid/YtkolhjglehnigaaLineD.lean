/-
  The line with its budget: what may still be said. The contracts of come, of what a side wants, and of send.
-/
import Derived.Test.YtkolhjglehnigaaLineC
namespace Go.Proofs.Ytkolhjglehnigaa.Que
open Go.RowKit Base Opt
set_option linter.unusedVariables false

theorem Net.Good.toB {MA MB : Nat → Bool} {SA SB : Nat → Nat} {ab t : List Wd} {x : Wd} {ba : List Wd} (h : (Net.mk MA MB SA SB (x :: t) ba).Good) :
    (Net.mk MA MB SA (gotW MB SB x).1 t (ba ++ (gotW MB SB x).2)).Good ∧ (Net.mk MA MB SA (gotW MB SB x).1 t (ba ++ (gotW MB SB x).2)).F + (gotW MB SB x).2.length ≤ (Net.mk MA MB SA SB (x :: t) ba).F := by
  obtain ⟨h1, h2⟩ := h.swap
  obtain ⟨h3, h4⟩ := h1.toA (w := x) (t := t) rfl
  obtain ⟨h5, h6⟩ := h3.swap
  have e : ((Net.mk MA MB SA SB (x :: t) ba).swap.toA x t).swap = Net.mk MA MB SA (gotW MB SB x).1 t (ba ++ (gotW MB SB x).2) := rfl
  rw [e] at h5 h6
  have e2 : (gotW (Net.mk MA MB SA SB (x :: t) ba).swap.MA (Net.mk MA MB SA SB (x :: t) ba).swap.SA x).2 = (gotW MB SB x).2 := rfl
  rw [e2] at h4
  exact ⟨h5, by omega⟩
theorem Net.Good.wishB {MA MB : Nat → Bool} {SA SB : Nat → Nat} {ab ba : List Wd} (x : Wd) (h : (Net.mk MA MB SA SB ab ba).Good) (hx : x.2 < 256) :
    (Net.mk MA MB SA (wantW SB x).1 ab (ba ++ (wantW SB x).2)).Good ∧ (Net.mk MA MB SA (wantW SB x).1 ab (ba ++ (wantW SB x).2)).F + (wantW SB x).2.length ≤ (Net.mk MA MB SA SB ab ba).F + 2 := by
  obtain ⟨h1, h2⟩ := h.swap
  obtain ⟨h3, h4⟩ := h1.wishA x hx
  obtain ⟨h5, h6⟩ := h3.swap
  have e : ((Net.mk MA MB SA SB ab ba).swap.wishA x).swap = Net.mk MA MB SA (wantW SB x).1 ab (ba ++ (wantW SB x).2) := rfl
  rw [e] at h5 h6
  have e2 : (wantW (Net.mk MA MB SA SB ab ba).swap.SA x).2 = (wantW SB x).2 := rfl
  rw [e2] at h4
  exact ⟨h5, by omega⟩
structure LR0 (w : World) (l bA bB s : Nat) (MA MB : Nat → Bool) (m : Nat) (SA SB : Nat → Nat) (ab ba : List Wd) (n : Nat) (qA qB : Value) (W : World) : Prop where
  ln : LN w l bA bB s MA MB SA SB ab ba n qA qB W
  good : (Net.mk MA MB SA SB ab ba).Good
  f : n + (Net.mk MA MB SA SB ab ba).F ≤ m
  len : ab.length + ba.length ≤ n
def LR (w : World) (l bA bB s : Nat) (MA MB : Nat → Bool) (m : Nat) (W : World) : Prop := ∃ SA SB ab ba n qA qB, LR0 w l bA bB s MA MB m SA SB ab ba n qA qB W
/-- How often a word may still come. -/
def lm (l m : Nat) (W : World) : Nat :=
  match W.cell? ⟨l, 2, none⟩, W.cell? ⟨l, 3, none⟩, W.cell? ⟨l, 4, none⟩ with
  | some (.slice _ a _), some (.slice _ b _), some (.int _ n) => m - n.toNat + a + b
  | _, _, _ => 0
section
variable {w W W' : World} {l bA bB s m n : Nat} {MA MB : Nat → Bool} {SA SB : Nat → Nat} {ab ba t : List Wd} {qA qB : Value} {x : Wd}
theorem LN.lm (h : LN w l bA bB s MA MB SA SB ab ba n qA qB W) (m : Nat) : lm l m W = m - n + ba.length + ab.length := by
  obtain ⟨c0, c1, c2, c3, c4, _⟩ := h.cells
  obtain ⟨a, c, ha⟩ := h.wa.form
  obtain ⟨b, d, hb⟩ := h.wb.form
  unfold Que.lm
  rw [c2, c3, c4, ha, hb]
  simp
theorem LR.below (h : LR w l bA bB s MA MB m W) (t : Below W.heap.size W W') : LR w l bA bB s MA MB m W' := by
  obtain ⟨SA, SB, ab, ba, n, qA, qB, h⟩ := h
  exact ⟨SA, SB, ab, ba, n, qA, qB, h.ln.below t, h.good, h.f, h.len⟩
theorem LR.mono {m' : Nat} (h : LR w l bA bB s MA MB m W) (hm : m ≤ m') : LR w l bA bB s MA MB m' W := by
  obtain ⟨SA, SB, ab, ba, n, qA, qB, h⟩ := h
  exact ⟨SA, SB, ab, ba, n, qA, qB, h.ln, h.good, Nat.le_trans h.f hm, h.len⟩
theorem LR.old (h : LR w l bA bB s MA MB m W) : Below w.heap.size w W := by
  obtain ⟨SA, SB, ab, ba, n, qA, qB, h⟩ := h
  exact h.ln.old
theorem LR.cells (h : LR w l bA bB s MA MB m W) : W.cell? ⟨l, 0, none⟩ = some (.pointer (some ⟨bA, 0, none⟩)) ∧ W.cell? ⟨l, 1, none⟩ = some (.pointer (some ⟨bB, 0, none⟩)) := by
  obtain ⟨SA, SB, ab, ba, n, qA, qB, h⟩ := h
  exact ⟨h.ln.cells.1, h.ln.cells.2.1⟩
theorem comeA_any (h : LR w l bA bB s MA MB m W) (hm : m ≤ 1000) : Calls Try.prog 29 #[.pointer (some ⟨l, 0, none⟩), .int .i64 0] W fun e W' => (e = .returned (.bool true) ∧ LR w l bA bB s MA MB m W' ∧ lm l m W' < lm l m W ∧ ComeS l bA W W') ∨ (e = .returned (.bool false) ∧ W = W' ∧ ∃ a c, W.cell? ⟨l, 2, none⟩ = some (.slice a 0 c)) := by
  obtain ⟨SA, SB, ab, ba, n, qA, qB, h⟩ := h
  have hf := h.f
  have hlen := h.len
  cases ba with
  | nil =>
    refine (comeA_none h.ln).mono ?_
    rintro e W' ⟨rfl, rfl⟩
    obtain ⟨a, c, ha⟩ := h.ln.wa.form
    have := h.ln.cells.2.2.1
    rw [ha] at this
    exact .inr ⟨rfl, rfl, a, c, this⟩
  | cons x t =>
    have hl := h.ln.lm m
    have hx : WdOk x := h.good.wb x (List.mem_cons_self ..)
    have hl1 : t.length + 1 = (x :: t).length := rfl
    obtain ⟨g1, g2⟩ := h.good.toA (w := x) (t := t) rfl
    refine (comeA_some h.ln hx (by omega) (by omega) (by omega)).mono ?_
    rintro e W' ⟨rfl, qA', qB', hln, hst⟩
    have hl' := hln.lm m
    have g2 : (Net.mk MA MB (gotW MA SA x).1 SB (ab ++ (gotW MA SA x).2) t).F + (gotW MA SA x).2.length ≤ _ := g2
    refine .inl ⟨rfl, ⟨_, _, _, _, _, _, _, hln, g1, by omega, by rw [List.length_append]; omega⟩, ?_, hst⟩
    rw [hl, hl', List.length_append]
    omega
theorem comeB_any (h : LR w l bA bB s MA MB m W) (hm : m ≤ 1000) : Calls Try.prog 29 #[.pointer (some ⟨l, 0, none⟩), .int .i64 1] W fun e W' => (e = .returned (.bool true) ∧ LR w l bA bB s MA MB m W' ∧ lm l m W' < lm l m W ∧ ComeS l bB W W') ∨ (e = .returned (.bool false) ∧ W = W' ∧ ∃ a c, W.cell? ⟨l, 3, none⟩ = some (.slice a 0 c)) := by
  obtain ⟨SA, SB, ab, ba, n, qA, qB, h⟩ := h
  have hf := h.f
  have hlen := h.len
  cases ab with
  | nil =>
    refine (comeB_none h.ln).mono ?_
    rintro e W' ⟨rfl, rfl⟩
    obtain ⟨a, c, ha⟩ := h.ln.wb.form
    have := h.ln.cells.2.2.2.1
    rw [ha] at this
    exact .inr ⟨rfl, rfl, a, c, this⟩
  | cons x t =>
    have hl := h.ln.lm m
    have hx : WdOk x := h.good.wa x (List.mem_cons_self ..)
    have hl1 : t.length + 1 = (x :: t).length := rfl
    obtain ⟨g1, g2⟩ := Net.Good.toB (ab := []) h.good
    refine (comeB_some h.ln hx (by omega) (by omega) (by omega)).mono ?_
    rintro e W' ⟨rfl, qA', qB', hln, hst⟩
    have hl' := hln.lm m
    have g2 : (Net.mk MA MB SA (gotW MB SB x).1 t (ba ++ (gotW MB SB x).2)).F + (gotW MB SB x).2.length ≤ _ := g2
    refine .inl ⟨rfl, ⟨_, _, _, _, _, _, _, hln, g1, by omega, by rw [List.length_append]; omega⟩, ?_, hst⟩
    rw [hl, hl', List.length_append]
    omega
/-- Behind a wish: what it says is not yet on its way. -/
def LHA (w : World) (l bA bB s : Nat) (MA MB : Nat → Bool) (m : Nat) (v : Value) (W : World) : Prop :=
  ∃ SA SB ab ba n qA qB L, LN w l bA bB s MA MB SA SB ab ba n qA qB W ∧ (Net.mk MA MB SA SB (ab ++ L) ba).Good ∧ n + L.length + (Net.mk MA MB SA SB (ab ++ L) ba).F ≤ m ∧ ab.length + ba.length ≤ n ∧ (L = [] ∨ ∃ y, L = [y]) ∧ RowIn (fun k => s ≤ k) .u8 W v (flatW L)
theorem LHA.below {v : Value} (h : LHA w l bA bB s MA MB m v W) (t : Below W.heap.size W W') : LHA w l bA bB s MA MB m v W' := by
  obtain ⟨SA, SB, ab, ba, n, qA, qB, L, h1, h2, h3, h4, h5, h6⟩ := h
  exact ⟨SA, SB, ab, ba, n, qA, qB, L, h1.below t, h2, h3, h4, h5, h6.turn (Turn.of_below t) fun _ _ e => e⟩
theorem LHA.cells {v : Value} (h : LHA w l bA bB s MA MB m v W) : W.cell? ⟨l, 0, none⟩ = some (.pointer (some ⟨bA, 0, none⟩)) := by
  obtain ⟨SA, SB, ab, ba, n, qA, qB, L, h1, _⟩ := h
  exact h1.cells.1
theorem LHA.slice {v : Value} (h : LHA w l bA bB s MA MB m v W) : ∃ a n c, v = .slice a n c := by
  obtain ⟨SA, SB, ab, ba, n, qA, qB, L, h1, h2, h3, h4, h5, a, c, e, _⟩ := h
  exact ⟨a, _, c, e⟩
theorem wantA_any (h : LR w l bA bB s MA MB m W) (c : Int) (o : Nat) (hc : c < 256) (ho : o < 256) : Calls Try.prog 30 #[.pointer (some ⟨bA, 0, none⟩), .int .u8 c, .int .u8 o] W fun e W' => ∃ p er, e = .returned (.tuple #[p, .int .i64 er]) ∧ LHA w l bA bB s MA MB (m + 2) p W' ∧ Turn (At bA) W W' := by
  obtain ⟨SA, SB, ab, ba, n, qA, qB, h⟩ := h
  have hf := h.f
  have hlen := h.len
  have hsz := h.ln.sz
  by_cases hv : 251 ≤ c ∧ c ≤ 254
  · obtain ⟨er, he⟩ := wantS_W SA (c, o) hv.1 hv.2
    have hle := wantS_le c o h.ln.la
    obtain ⟨g1, g2⟩ := h.good.wishA (c, o) ho
    refine (want_any c o ho h.ln.oa h.ln.la).mono ?_
    have he : wantS SA c o = _ := he
    rw [he] at hle ⊢
    rintro e W' ⟨p, rfl, hp, ht, hu⟩
    have g2 : (Net.mk MA MB (wantW SA (c, o)).1 SB (ab ++ (wantW SA (c, o)).2) ba).F + (wantW SA (c, o)).2.length ≤ (Net.mk MA MB SA SB ab ba).F + 2 := g2
    exact ⟨p, _, rfl, ⟨(wantW SA (c, o)).1, SB, ab, ba, n, qA, qB, (wantW SA (c, o)).2, h.ln.turnA hu ht hle, g1, by omega, hlen, want_cases SA (c, o), hp.mono fun k hk => Nat.le_trans hsz hk⟩, hu⟩
  · have he : ∃ er, wantS SA c o = (SA, [], er) := by
      unfold wantS
      have h1 : ¬ c = 251 := by omega
      have h2 : ¬ c = 252 := by omega
      have h3 : ¬ c = 253 := by omega
      have h4 : ¬ c = 254 := by omega
      simp [h1, h2, h3, h4]
    obtain ⟨er, he⟩ := he
    refine (want_any c o ho h.ln.oa h.ln.la).mono ?_
    rw [he]
    rintro e W' ⟨p, rfl, hp, ht, hu⟩
    exact ⟨p, _, rfl, ⟨_, _, ab, ba, n, qA, qB, [], h.ln.turnA hu ht h.ln.la, by rw [List.append_nil]; exact h.good, by rw [List.append_nil]; simp; omega, hlen, .inl rfl, hp.mono fun k hk => Nat.le_trans hsz hk⟩, hu⟩
theorem sendA_any {v : Value} (h : LHA w l bA bB s MA MB m v W) (hm : m ≤ 1000) : Calls Try.prog 31 #[.pointer (some ⟨l, 0, none⟩), .int .i64 0, v] W fun e W' => e = .returned (.tuple #[]) ∧ LR w l bA bB s MA MB m W' := by
  obtain ⟨SA, SB, ab, ba, n, qA, qB, L, h1, h2, h3, h4, h5, h6⟩ := h
  rcases h5 with rfl | ⟨y, rfl⟩
  · obtain ⟨a, c, rfl, _⟩ := h6
    refine (sendA0 h1 a c).mono ?_
    rintro e W' ⟨rfl, rfl⟩
    rw [List.append_nil] at h2 h3
    exact ⟨rfl, SA, SB, ab, ba, n, qA, qB, h1, h2, by simpa using h3, h4⟩
  · have h3' : n + 1 + (Net.mk MA MB SA SB (ab ++ [y]) ba).F ≤ m := h3
    refine (sendA1 h1 v y h6 (by omega) (by omega)).mono ?_
    rintro e W' ⟨rfl, q', hln, _⟩
    exact ⟨rfl, SA, SB, _, _, n + 1, _, _, hln, h2, h3', by rw [List.length_append]; simp; omega⟩
def LHB (w : World) (l bA bB s : Nat) (MA MB : Nat → Bool) (m : Nat) (v : Value) (W : World) : Prop :=
  ∃ SA SB ab ba n qA qB L, LN w l bA bB s MA MB SA SB ab ba n qA qB W ∧ (Net.mk MA MB SA SB ab (ba ++ L)).Good ∧ n + L.length + (Net.mk MA MB SA SB ab (ba ++ L)).F ≤ m ∧ ab.length + ba.length ≤ n ∧ (L = [] ∨ ∃ y, L = [y]) ∧ RowIn (fun k => s ≤ k) .u8 W v (flatW L)
theorem LHB.below {v : Value} (h : LHB w l bA bB s MA MB m v W) (t : Below W.heap.size W W') : LHB w l bA bB s MA MB m v W' := by
  obtain ⟨SA, SB, ab, ba, n, qA, qB, L, h1, h2, h3, h4, h5, h6⟩ := h
  exact ⟨SA, SB, ab, ba, n, qA, qB, L, h1.below t, h2, h3, h4, h5, h6.turn (Turn.of_below t) fun _ _ e => e⟩
theorem LHB.cells {v : Value} (h : LHB w l bA bB s MA MB m v W) : W.cell? ⟨l, 1, none⟩ = some (.pointer (some ⟨bB, 0, none⟩)) := by
  obtain ⟨SA, SB, ab, ba, n, qA, qB, L, h1, _⟩ := h
  exact h1.cells.2.1
theorem LHB.slice {v : Value} (h : LHB w l bA bB s MA MB m v W) : ∃ a n c, v = .slice a n c := by
  obtain ⟨SA, SB, ab, ba, n, qA, qB, L, h1, h2, h3, h4, h5, a, c, e, _⟩ := h
  exact ⟨a, _, c, e⟩
theorem wantB_any (h : LR w l bA bB s MA MB m W) (c : Int) (o : Nat) (hc : c < 256) (ho : o < 256) : Calls Try.prog 30 #[.pointer (some ⟨bB, 0, none⟩), .int .u8 c, .int .u8 o] W fun e W' => ∃ p er, e = .returned (.tuple #[p, .int .i64 er]) ∧ LHB w l bA bB s MA MB (m + 2) p W' ∧ Turn (At bB) W W' := by
  obtain ⟨SA, SB, ab, ba, n, qA, qB, h⟩ := h
  have hf := h.f
  have hlen := h.len
  have hsz := h.ln.sz
  by_cases hv : 251 ≤ c ∧ c ≤ 254
  · obtain ⟨er, he⟩ := wantS_W SB (c, o) hv.1 hv.2
    have hle := wantS_le c o h.ln.lb
    obtain ⟨g1, g2⟩ := Net.Good.wishB (c, o) h.good ho
    refine (want_any c o ho h.ln.ob h.ln.lb).mono ?_
    have he : wantS SB c o = _ := he
    rw [he] at hle ⊢
    rintro e W' ⟨p, rfl, hp, ht, hu⟩
    have g2 : (Net.mk MA MB SA (wantW SB (c, o)).1 ab (ba ++ (wantW SB (c, o)).2)).F + (wantW SB (c, o)).2.length ≤ (Net.mk MA MB SA SB ab ba).F + 2 := g2
    exact ⟨p, _, rfl, ⟨SA, (wantW SB (c, o)).1, ab, ba, n, qA, qB, (wantW SB (c, o)).2, h.ln.turnB hu ht hle, g1, by omega, hlen, want_cases SB (c, o), hp.mono fun k hk => Nat.le_trans hsz hk⟩, hu⟩
  · have he : ∃ er, wantS SB c o = (SB, [], er) := by
      unfold wantS
      have h1 : ¬ c = 251 := by omega
      have h2 : ¬ c = 252 := by omega
      have h3 : ¬ c = 253 := by omega
      have h4 : ¬ c = 254 := by omega
      simp [h1, h2, h3, h4]
    obtain ⟨er, he⟩ := he
    refine (want_any c o ho h.ln.ob h.ln.lb).mono ?_
    rw [he]
    rintro e W' ⟨p, rfl, hp, ht, hu⟩
    exact ⟨p, _, rfl, ⟨_, _, ab, ba, n, qA, qB, [], h.ln.turnB hu ht h.ln.lb, by rw [List.append_nil]; exact h.good, by rw [List.append_nil]; simp; omega, hlen, .inl rfl, hp.mono fun k hk => Nat.le_trans hsz hk⟩, hu⟩
theorem sendB_any {v : Value} (h : LHB w l bA bB s MA MB m v W) (hm : m ≤ 1000) : Calls Try.prog 31 #[.pointer (some ⟨l, 0, none⟩), .int .i64 1, v] W fun e W' => e = .returned (.tuple #[]) ∧ LR w l bA bB s MA MB m W' := by
  obtain ⟨SA, SB, ab, ba, n, qA, qB, L, h1, h2, h3, h4, h5, h6⟩ := h
  rcases h5 with rfl | ⟨y, rfl⟩
  · obtain ⟨a, c, rfl, _⟩ := h6
    refine (sendB0 h1 a c).mono ?_
    rintro e W' ⟨rfl, rfl⟩
    rw [List.append_nil] at h2 h3
    exact ⟨rfl, SA, SB, ab, ba, n, qA, qB, h1, h2, by simpa using h3, h4⟩
  · have h3' : n + 1 + (Net.mk MA MB SA SB ab (ba ++ [y])).F ≤ m := h3
    refine (sendB1 h1 v y h6 (by omega) (by omega)).mono ?_
    rintro e W' ⟨rfl, q', hln, _⟩
    exact ⟨rfl, SA, SB, _, _, n + 1, _, _, hln, h2, h3', by rw [List.length_append]; simp; omega⟩
/-- At rest. -/
theorem LR.rest (h : LR w l bA bB s MA MB m W) (ha : ∃ a c, W.cell? ⟨l, 2, none⟩ = some (.slice a 0 c)) (hb : ∃ a c, W.cell? ⟨l, 3, none⟩ = some (.slice a 0 c)) : ∃ SA SB n qA qB, n ≤ m ∧ LN w l bA bB s MA MB SA SB [] [] n qA qB W ∧ ∀ r o, o < 256 → SA (ixb r o) = SB (ixb (!r) o) ∧ SA (ixb r o) ≤ 1 := by
  obtain ⟨SA, SB, ab, ba, n, qA, qB, h⟩ := h
  obtain ⟨c0, c1, c2, c3, c4, _⟩ := h.ln.cells
  obtain ⟨a, c, ha⟩ := ha
  obtain ⟨b, d, hb⟩ := hb
  obtain ⟨a', c', ha'⟩ := h.ln.wa.form
  obtain ⟨b', d', hb'⟩ := h.ln.wb.form
  rw [c2, ha'] at ha
  rw [c3, hb'] at hb
  injection ha with ha; injection ha with _ ha _
  injection hb with hb; injection hb with _ hb _
  have e1 := List.eq_nil_of_length_eq_zero ha
  have e2 := List.eq_nil_of_length_eq_zero hb
  subst e1 e2
  exact ⟨SA, SB, n, qA, qB, by have := h.f; omega, h.ln, fun r o ho => h.good.rest rfl rfl r o ho⟩
theorem LR.count (h : LR w l bA bB s MA MB m W) : ∃ n : Nat, n ≤ m ∧ W.cell? ⟨l, 4, none⟩ = some (.int .i64 n) := by
  obtain ⟨SA, SB, ab, ba, n, qA, qB, h⟩ := h
  exact ⟨n, by have := h.f; omega, h.ln.cells.2.2.2.2.1⟩
end
end Go.Proofs.Ytkolhjglehnigaa.Que
