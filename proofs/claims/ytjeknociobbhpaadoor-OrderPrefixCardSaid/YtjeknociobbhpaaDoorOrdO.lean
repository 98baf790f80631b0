/-
  Bytes cut in two, each of which are orders: plainly.
-/
import Derived.Test.YtjeknociobbhpaaDoorOrdN
namespace Go.Proofs.YtjeknociobbhpaaDoor.Ord
open Go.RowKit Base
set_option linter.unusedVariables false
set_option linter.unusedSimpArgs false

/-! ### Where an order ends -/
theorem placeM_end {L : List Int} {i l : Nat} {x : Int} (h : placeM L i = .ok x l) : l ≤ L.length := by
  obtain ⟨a, j, h1, h2⟩ := andThen_ok h
  obtain ⟨b, k, h3, h4⟩ := andThen_ok h2
  have e2 := (nx_ok h3).2
  have e3 : k = l := by injection h4
  omega
theorem signM_end {L : List Int} {i l : Nat} {x : Int × Bool} (h : signM L i = .ok x l) : l ≤ L.length := by
  obtain ⟨a, j, h1, h2⟩ := andThen_ok h
  have e1 := (nx_ok h1).2
  split at h2
  · obtain ⟨b, k, h3, h4⟩ := andThen_ok h2
    have e2 := (nx_ok h3).2
    have e3 := shownM_adv h4
    omega
  · have e3 := shownM_adv h2
    omega
theorem pairM_end {L : List Int} {kind : Int} {i l : Nat} {x : Int × Int} (h : pairM L kind i = .ok x l) : l ≤ L.length := by
  obtain ⟨a, j, h1, h2⟩ := andThen_ok h
  obtain ⟨b, k, h3, h4⟩ := andThen_ok h2
  have e2 := (nx_ok h3).2
  have e3 : k = l := by
    split at h4
    · injection h4
    · cases h4
  omega
theorem pairsM_end {L : List Int} {kind : Int} : ∀ (n : Nat) {i l : Nat} {x : List (Int × Int)}, pairsM L kind n i = .ok x l → i ≤ L.length → l ≤ L.length
  | 0, i, l, x, h, hi => by injection h with _ e; omega
  | n + 1, i, l, x, h, hi => by
    obtain ⟨a, j, h1, h2⟩ := andThen_ok h
    obtain ⟨b, k, h3, h4⟩ := andThen_ok h2
    have e2 := pairsM_end n h3 (pairM_end h1)
    have e3 : k = l := by injection h4
    omega
theorem ordK_end {L : List Int} {k : Int} {j l : Nat} {o : Or} (h : ordK L k j = .ok o l) (hj : j ≤ L.length) : l ≤ L.length ∧ o.kind = k := by
  unfold ordK at h
  split at h
  · injection h with e1 e; exact ⟨by omega, by rw [← e1]⟩
  · split at h
    · obtain ⟨x, m, h1, h2⟩ := andThen_ok h
      have := placeM_end h1
      injection h2 with e1 e; exact ⟨by omega, by rw [← e1]⟩
    · split at h
      · obtain ⟨x, m, h1, h2⟩ := andThen_ok h
        obtain ⟨y, n, h3, h4⟩ := andThen_ok h2
        have e1 := (nx_ok h1).2
        have e2 := shownM_adv h3
        injection h4 with e1 e; exact ⟨by omega, by rw [← e1]⟩
      · split at h
        · obtain ⟨x, m, h1, h2⟩ := andThen_ok h
          obtain ⟨y, n, h3, h4⟩ := andThen_ok h2
          have e2 := signM_end h3
          injection h4 with e1 e; exact ⟨by omega, by rw [← e1]⟩
        · split at h
          · obtain ⟨x, m, h1, h2⟩ := andThen_ok h
            have e1 := (nx_ok h1).2
            injection h2 with e1 e; exact ⟨by omega, by rw [← e1]⟩
          · split at h
            · obtain ⟨x, m, h1, h2⟩ := andThen_ok h
              have e2 := pairsM_end _ h1 hj
              injection h2 with e1 e; exact ⟨by omega, by rw [← e1]⟩
            · split at h
              · obtain ⟨x, m, h1, h2⟩ := andThen_ok h
                obtain ⟨y, n, h3, h4⟩ := andThen_ok h2
                have e1 := (nx_ok h1).2
                have e2 := pairsM_end _ h3 (by omega)
                injection h4 with e1 e; exact ⟨by omega, by rw [← e1]⟩
              · cases h
theorem dataL_le (L : List Int) (i : Nat) (hi : i ≤ L.length) : i + (dataL L i).length ≤ L.length := by
  have : (dataL L i).length ≤ (L.drop i).length := (List.takeWhile_prefix plain).length_le
  rw [List.length_drop] at this
  omega
theorem orderM_end {L : List Int} {i l : Nat} {o : Or} (hi : i < L.length) (h : orderM L i = .ok o l) : l ≤ L.length := by
  unfold orderM at h
  split at h
  · injection h with _ e
    have := dataL_le L i (by omega)
    omega
  · exact (ordK_end h (by omega)).1
theorem Tr.le {L : List Int} {i n : Nat} {os : List Or} {g : Option Flt} (t : Tr L i os n g) (hi : i ≤ L.length) : i ≤ n ∧ n ≤ L.length := by
  induction t with
  | stop h => omega
  | bad h e => omega
  | step h e _ ih =>
    have h1 := orderM_adv h e
    have h2 := orderM_end h e
    have := ih h2
    omega
/-! ### The run of plain bytes -/
theorem takeWhile_take {α : Type} (p : α → Bool) : ∀ (X : List α) (m : Nat), (X.take m).takeWhile p = (X.takeWhile p).take m
  | [], m => by simp
  | x :: X, 0 => by simp
  | x :: X, m + 1 => by
    rw [List.take_succ_cons]
    by_cases h : p x = true
    · rw [List.takeWhile_cons_of_pos h, List.takeWhile_cons_of_pos h, List.take_succ_cons, takeWhile_take p X m]
    · rw [List.takeWhile_cons_of_neg h, List.takeWhile_cons_of_neg h]; rfl
theorem dataL_take (L : List Int) (i n : Nat) (h : i + (dataL L i).length ≤ n) : dataL (L.take n) i = dataL L i := by
  unfold dataL at h ⊢
  rw [List.drop_take, takeWhile_take, List.take_of_length_le (by omega)]
theorem dataL_append (X b : List Int) (i : Nat) (hi : i ≤ X.length) : dataL (X ++ b) i = if i + (dataL X i).length = X.length then dataL X i ++ dataL b 0 else dataL X i := by
  unfold dataL
  rw [List.drop_append_of_le_length hi, List.takeWhile_append, List.length_drop, List.drop_zero]
  have : (List.takeWhile plain (List.drop i X)).length ≤ X.length - i := by rw [← List.length_drop]; exact (List.takeWhile_prefix plain).length_le
  by_cases h : (List.takeWhile plain (List.drop i X)).length = X.length - i
  · rw [if_pos h, if_pos (by omega)]
    rw [← List.length_drop] at h
    rw [(List.takeWhile_prefix plain).eq_of_length h]
  · rw [if_neg h, if_neg (by omega)]
theorem dataL_next (L : List Int) (i : Nat) (hi : i ≤ L.length) (h : i + (dataL L i).length < L.length) : plain (L[i + (dataL L i).length]?.getD 0) = false := by
  unfold dataL at h ⊢
  generalize hX : L.drop i = X at h
  have hlen : X.length = L.length - i := by rw [← hX, List.length_drop]
  have key : ∀ (X : List Int), (X.takeWhile plain).length < X.length → plain (X[(X.takeWhile plain).length]?.getD 0) = false := by
    intro X
    induction X with
    | nil => intro h; simp at h
    | cons x X ih =>
      intro h
      by_cases hp : plain x = true
      · rw [List.takeWhile_cons_of_pos hp] at h ⊢
        simpa using ih (by simpa using h)
      · rw [List.takeWhile_cons_of_neg hp]
        simpa using hp
  have := key X (by omega)
  rw [← hX, List.getElem?_drop] at this
  rw [← hX]
  exact this
end Go.Proofs.YtjeknociobbhpaaDoor.Ord
