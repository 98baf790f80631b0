/-
  Orders that are parsed are small.
-/
import Derived.Test.YtmmgebiojpnhcaaDoorOrdS
namespace Go.Proofs.YtmmgebiojpnhcaaDoor.Ord
open Go.RowKit Base
set_option linter.unusedVariables false
set_option linter.unusedSimpArgs false

theorem pairM_two {L : List Int} {kind : Int} {i l : Nat} {x : Int × Int} (h : pairM L kind i = .ok x l) : i + 1 ≤ l := by
  obtain ⟨a, j, h1, h2⟩ := andThen_ok h
  obtain ⟨b, k, h3, h4⟩ := andThen_ok h2
  have e1 := (nx_ok h1).2.1
  have e2 := (nx_ok h3).2.1
  have e3 : k = l := by
    split at h4
    · injection h4
    · cases h4
  omega
theorem pairsM_len {L : List Int} {kind : Int} : ∀ (m : Nat) {i l : Nat} {c : List (Int × Int)}, pairsM L kind m i = .ok c l → c.length + i ≤ l
  | 0, i, l, c, e => by
    have e : Rd.ok [] i = Rd.ok c l := e
    injection e with e1 e2
    subst e1
    simp
    omega
  | m + 1, i, l, c, e => by
    obtain ⟨a, j, h1, h2⟩ := andThen_ok e
    obtain ⟨b, k, h3, h4⟩ := andThen_ok h2
    have e1 := pairM_two h1
    have e2 := pairsM_len m h3
    injection h4 with e3 e4
    subst e3
    simp
    omega
theorem ordK_len {L : List Int} {k : Int} {j l : Nat} {o : Or} (h : ordK L k j = .ok o l) : o.pairs.length + j ≤ l ∧ o.data = [] := by
  have ha := ordK_adv h
  unfold ordK at h
  split at h
  · injection h with e _; subst e; exact ⟨by simpa using ha, rfl⟩
  · split at h
    · obtain ⟨x, m, h1, h2⟩ := andThen_ok h
      injection h2 with e _; subst e; exact ⟨by simpa using ha, rfl⟩
    · split at h
      · obtain ⟨x, m, h1, h2⟩ := andThen_ok h
        obtain ⟨y, n, h3, h4⟩ := andThen_ok h2
        injection h4 with e _; subst e; exact ⟨by simpa using ha, rfl⟩
      · split at h
        · obtain ⟨x, m, h1, h2⟩ := andThen_ok h
          obtain ⟨y, n, h3, h4⟩ := andThen_ok h2
          injection h4 with e _; subst e; exact ⟨by simpa using ha, rfl⟩
        · split at h
          · obtain ⟨x, m, h1, h2⟩ := andThen_ok h
            injection h2 with e _; subst e; exact ⟨by simpa using ha, rfl⟩
          · split at h
            · obtain ⟨x, m, h1, h2⟩ := andThen_ok h
              have e1 := pairsM_len _ h1
              injection h2 with e e2; subst e; exact ⟨by simp only; omega, rfl⟩
            · split at h
              · obtain ⟨x, m, h1, h2⟩ := andThen_ok h
                obtain ⟨y, n, h3, h4⟩ := andThen_ok h2
                have e1 := (nx_ok h1).2.1
                have e2 := pairsM_len _ h3
                injection h4 with e e2; subst e; exact ⟨by simp only; omega, rfl⟩
              · cases h
theorem dataL_mem (L : List Int) (i : Nat) : ∀ x ∈ dataL L i, x ∈ L := fun x hx => List.mem_of_mem_drop (List.takeWhile_subset _ hx)
theorem orderM_len {L : List Int} {i l : Nat} {o : Or} (hi : i < L.length) (h : orderM L i = .ok o l) : i + 1 ≤ l ∧ o.pairs.length + i ≤ l ∧ o.data.length + i ≤ l ∧ ∀ x ∈ o.data, x ∈ L := by
  have ha := orderM_adv hi h
  unfold orderM at h
  split at h
  · injection h with e1 e2
    subst e1
    exact ⟨ha, by simp only [List.length_nil]; omega, by simp only; omega, dataL_mem L i⟩
  · have h1 := ordK_len h
    rw [h1.2]
    exact ⟨ha, by omega, by simp only [List.length_nil]; omega, by simp⟩
theorem Tr.small {L : List Int} {i n : Nat} {os : List Or} {g : Option Flt} (t : Tr L i os n g) : i ≤ n ∧ os.length + i ≤ n ∧ dsum os + i ≤ n ∧ ∀ o ∈ os, o.pairs.length ≤ n ∧ ∀ x ∈ o.data, x ∈ L := by
  induction t with
  | stop h => exact ⟨Nat.le_refl _, by simp, by simp [dsum], by simp⟩
  | bad h e => exact ⟨Nat.le_refl _, by simp, by simp [dsum], by simp⟩
  | @step i j n o os g h e t ih =>
    obtain ⟨h1, h2, h3, h4⟩ := ih
    obtain ⟨a1, a2, a3, a4⟩ := orderM_len h e
    refine ⟨by omega, by simp only [List.length_cons]; omega, by simp only [dsum, List.map_cons, List.sum_cons] at h3 ⊢; omega, fun o' ho => ?_⟩
    rcases List.mem_cons.1 ho with rfl | ho
    · exact ⟨by omega, a4⟩
    · exact h4 o' ho
/-- What is parsed is small. -/
theorem parse_small (L : List Int) (hL : ∀ x ∈ L, 0 ≤ x ∧ x < 256) (hm : L.length ≤ 1000000) (os : List Or) (n : Nat) (g : Option Flt) (h : parseL L (L.length + 1) 0 = (os, n, g)) : n ≤ L.length ∧ os.length ≤ L.length ∧ dsum os ≤ L.length ∧ ∀ o ∈ os, o.Ok := by
  have t : Tr L 0 os n g := by
    have t := Tr.of L (L.length + 1) 0 (by omega)
    rw [h] at t
    exact t
  obtain ⟨_, h2⟩ := t.le (by omega)
  obtain ⟨_, h3, h4, h5⟩ := t.small
  exact ⟨h2, by omega, by omega, fun o ho => ⟨by have := (h5 o ho).1; omega, fun x hx => hL x ((h5 o ho).2 x hx)⟩⟩
theorem dsum_append (A B : List Or) : dsum (A ++ B) = dsum A + dsum B := by simp [dsum]
end Go.Proofs.YtmmgebiojpnhcaaDoor.Ord
