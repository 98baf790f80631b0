/-
  Bytes that are orders, and what stands ahead of a break: plainly.
-/
import Derived.Test.YtjeknociobbhpaaDoorOrdM
namespace Go.Proofs.YtjeknociobbhpaaDoor.Ord
open Go.RowKit Base
set_option linter.unusedVariables false
set_option linter.unusedSimpArgs false

/-! ### An order leans on its own bytes alone -/
section
variable {L M : List Int} {n : Nat}
theorem nx_loc (h : ∀ q, q < n → M[q]? = L[q]?) {i l : Nat} {c : Int} (e : nx L i = .ok c l) (hl : l ≤ n) : nx M i = .ok c l := by
  have := (nx_ok e).2.1
  unfold nx at e ⊢
  rw [h i (by omega)]
  exact e
theorem andThen_of {α β : Type} {r : Rd α} {k : α → Nat → Rd β} {x : α} {l : Nat} (h : r = .ok x l) : r.andThen k = k x l := by rw [h]; rfl
theorem placeM_loc (h : ∀ q, q < n → M[q]? = L[q]?) {i l : Nat} {c : Int} (e : placeM L i = .ok c l) (hl : l ≤ n) : placeM M i = .ok c l := by
  obtain ⟨a, j, h1, h2⟩ := andThen_ok e
  obtain ⟨b, k, h3, h4⟩ := andThen_ok h2
  have e2 := (nx_ok h3).2.1
  have e3 : k = l := by injection h4
  unfold placeM
  rw [andThen_of (nx_loc h h1 (by have := (nx_ok h3).2.1; omega)), andThen_of (nx_loc h h3 (by omega))]
  exact h4
theorem signM_loc (h : ∀ q, q < n → M[q]? = L[q]?) {i l : Nat} {c : Int × Bool} (e : signM L i = .ok c l) (hl : l ≤ n) : signM M i = .ok c l := by
  obtain ⟨a, j, h1, h2⟩ := andThen_ok e
  unfold signM
  split at h2
  · next h8 =>
    obtain ⟨b, k, h3, h4⟩ := andThen_ok h2
    have e2 := (nx_ok h3).2.1
    have e3 := shownM_adv h4
    rw [andThen_of (nx_loc h h1 (by omega)), if_pos h8, andThen_of (nx_loc h h3 (by omega))]
    exact h4
  · next h8 =>
    have e3 := shownM_adv h2
    rw [andThen_of (nx_loc h h1 (by omega)), if_neg h8]
    exact h2
theorem pairM_loc (h : ∀ q, q < n → M[q]? = L[q]?) {kind : Int} {i l : Nat} {c : Int × Int} (e : pairM L kind i = .ok c l) (hl : l ≤ n) : pairM M kind i = .ok c l := by
  obtain ⟨a, j, h1, h2⟩ := andThen_ok e
  obtain ⟨b, k, h3, h4⟩ := andThen_ok h2
  have e2 := (nx_ok h3).2.1
  have e3 : k = l := by
    split at h4
    · injection h4
    · cases h4
  unfold pairM
  rw [andThen_of (nx_loc h h1 (by omega)), andThen_of (nx_loc h h3 (by omega))]
  exact h4
theorem pairsM_loc (h : ∀ q, q < n → M[q]? = L[q]?) {kind : Int} : ∀ (m : Nat) {i l : Nat} {c : List (Int × Int)}, pairsM L kind m i = .ok c l → l ≤ n → pairsM M kind m i = .ok c l
  | 0, i, l, c, e, _ => e
  | m + 1, i, l, c, e, hl => by
    obtain ⟨a, j, h1, h2⟩ := andThen_ok e
    obtain ⟨b, k, h3, h4⟩ := andThen_ok h2
    have e2 := pairsM_adv m h3
    have e3 : k = l := by injection h4
    unfold pairsM
    rw [andThen_of (pairM_loc h h1 (by omega)), andThen_of (pairsM_loc h m h3 (by omega))]
    exact h4
theorem ordK_loc (h : ∀ q, q < n → M[q]? = L[q]?) {k : Int} {j l : Nat} {o : Or} (e : ordK L k j = .ok o l) (hl : l ≤ n) : ordK M k j = .ok o l := by
  unfold ordK at e ⊢
  split at e
  · next c => rw [if_pos c]; exact e
  · next c1 =>
    rw [if_neg c1]
    split at e
    · next c =>
      obtain ⟨x, m, h1, h2⟩ := andThen_ok e
      have : m = l := by injection h2
      rw [if_pos c, andThen_of (placeM_loc h h1 (by omega))]
      exact h2
    · next c2 =>
      rw [if_neg c2]
      split at e
      · next c =>
        obtain ⟨x, m, h1, h2⟩ := andThen_ok e
        obtain ⟨y, p, h3, h4⟩ := andThen_ok h2
        have e1 := shownM_adv h3
        have : p = l := by injection h4
        rw [if_pos c, andThen_of (nx_loc h h1 (by omega)), andThen_of h3]
        exact h4
      · next c3 =>
        rw [if_neg c3]
        split at e
        · next c =>
          obtain ⟨x, m, h1, h2⟩ := andThen_ok e
          obtain ⟨y, p, h3, h4⟩ := andThen_ok h2
          have e1 := signM_adv h3
          have : p = l := by injection h4
          rw [if_pos c, andThen_of (placeM_loc h h1 (by omega)), andThen_of (signM_loc h h3 (by omega))]
          exact h4
        · next c4 =>
          rw [if_neg c4]
          split at e
          · next c =>
            obtain ⟨x, m, h1, h2⟩ := andThen_ok e
            have : m = l := by injection h2
            rw [if_pos c, andThen_of (nx_loc h h1 (by omega))]
            exact h2
          · next c5 =>
            rw [if_neg c5]
            split at e
            · next c =>
              obtain ⟨x, m, h1, h2⟩ := andThen_ok e
              have : m = l := by injection h2
              rw [if_pos c, andThen_of (pairsM_loc h _ h1 (by omega))]
              exact h2
            · next c6 =>
              rw [if_neg c6]
              split at e
              · next c =>
                obtain ⟨x, m, h1, h2⟩ := andThen_ok e
                obtain ⟨y, p, h3, h4⟩ := andThen_ok h2
                have e1 := pairsM_adv _ h3
                have : p = l := by injection h4
                rw [if_pos c, andThen_of (nx_loc h h1 (by omega)), andThen_of (pairsM_loc h _ h3 (by omega))]
                exact h4
              · cases e
end
/-- What bytes are from a place on: the orders, where they end, what breaks them off. -/
inductive Tr (L : List Int) : Nat → List Or → Nat → Option Flt → Prop
  | stop {i : Nat} (h : L.length ≤ i) : Tr L i [] i none
  | bad {i : Nat} {f : Flt} (h : i < L.length) (e : orderM L i = .bad f) : Tr L i [] i (some f)
  | step {i j n : Nat} {o : Or} {os : List Or} {g : Option Flt} (h : i < L.length) (e : orderM L i = .ok o j) (t : Tr L j os n g) : Tr L i (o :: os) n g
theorem Tr.of (L : List Int) : ∀ (f i : Nat), L.length ≤ i + f → Tr L i (parseL L f i).1 (parseL L f i).2.1 (parseL L f i).2.2
  | 0, i, h => .stop (by omega)
  | f + 1, i, h => by
    unfold parseL
    by_cases hi : i < L.length
    · rw [if_pos hi]
      cases e : orderM L i with
      | bad x => exact .bad hi e
      | ok o j => exact .step hi e (Tr.of L f j (by have := orderM_adv hi e; omega))
    · rw [if_neg hi]; exact .stop (by omega)
theorem Tr.eq {L : List Int} {i n : Nat} {os : List Or} {g : Option Flt} (t : Tr L i os n g) : ∀ f, L.length ≤ i + f → parseL L f i = (os, n, g) := by
  induction t with
  | stop h => intro f _; exact parseL_end L f _ (by omega)
  | bad h e =>
    intro f hf
    cases f with
    | zero => omega
    | succ f => unfold parseL; rw [if_pos h, e]
  | step h e _ ih =>
    intro f hf
    cases f with
    | zero => omega
    | succ f =>
      have := orderM_adv h e
      unfold parseL
      rw [if_pos h, e]
      simp only
      rw [ih f (by omega)]
end Go.Proofs.YtjeknociobbhpaaDoor.Ord
