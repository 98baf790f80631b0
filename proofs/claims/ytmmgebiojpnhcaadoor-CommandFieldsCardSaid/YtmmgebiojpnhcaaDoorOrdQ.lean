/-
  Bytes that are orders, and what stands ahead of a break: plainly.
  Bytes cut in two, each of which are orders: plainly.
  What stands ahead of a break; bytes behind bytes that are orders: plainly.
  Orders with data behind data laid together: plainly.
-/
import Derived.Test.YtmmgebiojpnhcaaDoorOrdM
namespace Go.Proofs.YtmmgebiojpnhcaaDoor.Ord
open Go.RowKit Base
set_option linter.unusedVariables false
set_option linter.unusedSimpArgs false

/-! ### An order leans on its own bytes alone -/
section
variable {L M : List Int} {n : Nat}
theorem nx_loc (h : ∀ q, q < n → M[q]? = L[q]?) {i l : Nat} {c : Int} (e : nx L i = .ok c l) (hl : l ≤ n) : nx M i = .ok c l := by
  have := (nx_ok e).2.1
  unfold nx at e ⊢
  rw [h i (by omega)]
  exact e
theorem andThen_of {α β : Type} {r : Rd α} {k : α → Nat → Rd β} {x : α} {l : Nat} (h : r = .ok x l) : r.andThen k = k x l := by rw [h]; rfl
theorem placeM_loc (h : ∀ q, q < n → M[q]? = L[q]?) {i l : Nat} {c : Int} (e : placeM L i = .ok c l) (hl : l ≤ n) : placeM M i = .ok c l := by
  obtain ⟨a, j, h1, h2⟩ := andThen_ok e
  obtain ⟨b, k, h3, h4⟩ := andThen_ok h2
  have e2 := (nx_ok h3).2.1
  have e3 : k = l := by injection h4
  unfold placeM
  rw [andThen_of (nx_loc h h1 (by have := (nx_ok h3).2.1; omega)), andThen_of (nx_loc h h3 (by omega))]
  exact h4
theorem signM_loc (h : ∀ q, q < n → M[q]? = L[q]?) {i l : Nat} {c : Int × Bool} (e : signM L i = .ok c l) (hl : l ≤ n) : signM M i = .ok c l := by
  obtain ⟨a, j, h1, h2⟩ := andThen_ok e
  unfold signM
  split at h2
  · next h8 =>
    obtain ⟨b, k, h3, h4⟩ := andThen_ok h2
    have e2 := (nx_ok h3).2.1
    have e3 := shownM_adv h4
    rw [andThen_of (nx_loc h h1 (by omega)), if_pos h8, andThen_of (nx_loc h h3 (by omega))]
    exact h4
  · next h8 =>
    have e3 := shownM_adv h2
    rw [andThen_of (nx_loc h h1 (by omega)), if_neg h8]
    exact h2
theorem pairM_loc (h : ∀ q, q < n → M[q]? = L[q]?) {kind : Int} {i l : Nat} {c : Int × Int} (e : pairM L kind i = .ok c l) (hl : l ≤ n) : pairM M kind i = .ok c l := by
  obtain ⟨a, j, h1, h2⟩ := andThen_ok e
  obtain ⟨b, k, h3, h4⟩ := andThen_ok h2
  have e2 := (nx_ok h3).2.1
  have e3 : k = l := by
    split at h4
    · injection h4
    · cases h4
  unfold pairM
  rw [andThen_of (nx_loc h h1 (by omega)), andThen_of (nx_loc h h3 (by omega))]
  exact h4
theorem pairsM_loc (h : ∀ q, q < n → M[q]? = L[q]?) {kind : Int} : ∀ (m : Nat) {i l : Nat} {c : List (Int × Int)}, pairsM L kind m i = .ok c l → l ≤ n → pairsM M kind m i = .ok c l
  | 0, i, l, c, e, _ => e
  | m + 1, i, l, c, e, hl => by
    obtain ⟨a, j, h1, h2⟩ := andThen_ok e
    obtain ⟨b, k, h3, h4⟩ := andThen_ok h2
    have e2 := pairsM_adv m h3
    have e3 : k = l := by injection h4
    unfold pairsM
    rw [andThen_of (pairM_loc h h1 (by omega)), andThen_of (pairsM_loc h m h3 (by omega))]
    exact h4
theorem ordK_loc (h : ∀ q, q < n → M[q]? = L[q]?) {k : Int} {j l : Nat} {o : Or} (e : ordK L k j = .ok o l) (hl : l ≤ n) : ordK M k j = .ok o l := by
  unfold ordK at e ⊢
  split at e
  · next c => rw [if_pos c]; exact e
  · next c1 =>
    rw [if_neg c1]
    split at e
    · next c =>
      obtain ⟨x, m, h1, h2⟩ := andThen_ok e
      have : m = l := by injection h2
      rw [if_pos c, andThen_of (placeM_loc h h1 (by omega))]
      exact h2
    · next c2 =>
      rw [if_neg c2]
      split at e
      · next c =>
        obtain ⟨x, m, h1, h2⟩ := andThen_ok e
        obtain ⟨y, p, h3, h4⟩ := andThen_ok h2
        have e1 := shownM_adv h3
        have : p = l := by injection h4
        rw [if_pos c, andThen_of (nx_loc h h1 (by omega)), andThen_of h3]
        exact h4
      · next c3 =>
        rw [if_neg c3]
        split at e
        · next c =>
          obtain ⟨x, m, h1, h2⟩ := andThen_ok e
          obtain ⟨y, p, h3, h4⟩ := andThen_ok h2
          have e1 := signM_adv h3
          have : p = l := by injection h4
          rw [if_pos c, andThen_of (placeM_loc h h1 (by omega)), andThen_of (signM_loc h h3 (by omega))]
          exact h4
        · next c4 =>
          rw [if_neg c4]
          split at e
          · next c =>
            obtain ⟨x, m, h1, h2⟩ := andThen_ok e
            have : m = l := by injection h2
            rw [if_pos c, andThen_of (nx_loc h h1 (by omega))]
            exact h2
          · next c5 =>
            rw [if_neg c5]
            split at e
            · next c =>
              obtain ⟨x, m, h1, h2⟩ := andThen_ok e
              have : m = l := by injection h2
              rw [if_pos c, andThen_of (pairsM_loc h _ h1 (by omega))]
              exact h2
            · next c6 =>
              rw [if_neg c6]
              split at e
              · next c =>
                obtain ⟨x, m, h1, h2⟩ := andThen_ok e
                obtain ⟨y, p, h3, h4⟩ := andThen_ok h2
                have e1 := pairsM_adv _ h3
                have : p = l := by injection h4
                rw [if_pos c, andThen_of (nx_loc h h1 (by omega)), andThen_of (pairsM_loc h _ h3 (by omega))]
                exact h4
              · cases e
end
/-- What bytes are from a place on: the orders, where they end, what breaks them off. -/
inductive Tr (L : List Int) : Nat → List Or → Nat → Option Flt → Prop
  | stop {i : Nat} (h : L.length ≤ i) : Tr L i [] i none
  | bad {i : Nat} {f : Flt} (h : i < L.length) (e : orderM L i = .bad f) : Tr L i [] i (some f)
  | step {i j n : Nat} {o : Or} {os : List Or} {g : Option Flt} (h : i < L.length) (e : orderM L i = .ok o j) (t : Tr L j os n g) : Tr L i (o :: os) n g
theorem Tr.of (L : List Int) : ∀ (f i : Nat), L.length ≤ i + f → Tr L i (parseL L f i).1 (parseL L f i).2.1 (parseL L f i).2.2
  | 0, i, h => .stop (by omega)
  | f + 1, i, h => by
    unfold parseL
    by_cases hi : i < L.length
    · rw [if_pos hi]
      cases e : orderM L i with
      | bad x => exact .bad hi e
      | ok o j => exact .step hi e (Tr.of L f j (by have := orderM_adv hi e; omega))
    · rw [if_neg hi]; exact .stop (by omega)
theorem Tr.eq {L : List Int} {i n : Nat} {os : List Or} {g : Option Flt} (t : Tr L i os n g) : ∀ f, L.length ≤ i + f → parseL L f i = (os, n, g) := by
  induction t with
  | stop h => intro f _; exact parseL_end L f _ (by omega)
  | bad h e =>
    intro f hf
    cases f with
    | zero => omega
    | succ f => unfold parseL; rw [if_pos h, e]
  | step h e _ ih =>
    intro f hf
    cases f with
    | zero => omega
    | succ f =>
      have := orderM_adv h e
      unfold parseL
      rw [if_pos h, e]
      simp only
      rw [ih f (by omega)]
end Go.Proofs.YtmmgebiojpnhcaaDoor.Ord
namespace Go.Proofs.YtmmgebiojpnhcaaDoor.Ord
open Go.RowKit Base
set_option linter.unusedVariables false
set_option linter.unusedSimpArgs false

/-! ### Where an order ends -/
theorem placeM_end {L : List Int} {i l : Nat} {x : Int} (h : placeM L i = .ok x l) : l ≤ L.length := by
  obtain ⟨a, j, h1, h2⟩ := andThen_ok h
  obtain ⟨b, k, h3, h4⟩ := andThen_ok h2
  have e2 := (nx_ok h3).2
  have e3 : k = l := by injection h4
  omega
theorem signM_end {L : List Int} {i l : Nat} {x : Int × Bool} (h : signM L i = .ok x l) : l ≤ L.length := by
  obtain ⟨a, j, h1, h2⟩ := andThen_ok h
  have e1 := (nx_ok h1).2
  split at h2
  · obtain ⟨b, k, h3, h4⟩ := andThen_ok h2
    have e2 := (nx_ok h3).2
    have e3 := shownM_adv h4
    omega
  · have e3 := shownM_adv h2
    omega
theorem pairM_end {L : List Int} {kind : Int} {i l : Nat} {x : Int × Int} (h : pairM L kind i = .ok x l) : l ≤ L.length := by
  obtain ⟨a, j, h1, h2⟩ := andThen_ok h
  obtain ⟨b, k, h3, h4⟩ := andThen_ok h2
  have e2 := (nx_ok h3).2
  have e3 : k = l := by
    split at h4
    · injection h4
    · cases h4
  omega
theorem pairsM_end {L : List Int} {kind : Int} : ∀ (n : Nat) {i l : Nat} {x : List (Int × Int)}, pairsM L kind n i = .ok x l → i ≤ L.length → l ≤ L.length
  | 0, i, l, x, h, hi => by injection h with _ e; omega
  | n + 1, i, l, x, h, hi => by
    obtain ⟨a, j, h1, h2⟩ := andThen_ok h
    obtain ⟨b, k, h3, h4⟩ := andThen_ok h2
    have e2 := pairsM_end n h3 (pairM_end h1)
    have e3 : k = l := by injection h4
    omega
theorem ordK_end {L : List Int} {k : Int} {j l : Nat} {o : Or} (h : ordK L k j = .ok o l) (hj : j ≤ L.length) : l ≤ L.length ∧ o.kind = k := by
  unfold ordK at h
  split at h
  · injection h with e1 e; exact ⟨by omega, by rw [← e1]⟩
  · split at h
    · obtain ⟨x, m, h1, h2⟩ := andThen_ok h
      have := placeM_end h1
      injection h2 with e1 e; exact ⟨by omega, by rw [← e1]⟩
    · split at h
      · obtain ⟨x, m, h1, h2⟩ := andThen_ok h
        obtain ⟨y, n, h3, h4⟩ := andThen_ok h2
        have e1 := (nx_ok h1).2
        have e2 := shownM_adv h3
        injection h4 with e1 e; exact ⟨by omega, by rw [← e1]⟩
      · split at h
        · obtain ⟨x, m, h1, h2⟩ := andThen_ok h
          obtain ⟨y, n, h3, h4⟩ := andThen_ok h2
          have e2 := signM_end h3
          injection h4 with e1 e; exact ⟨by omega, by rw [← e1]⟩
        · split at h
          · obtain ⟨x, m, h1, h2⟩ := andThen_ok h
            have e1 := (nx_ok h1).2
            injection h2 with e1 e; exact ⟨by omega, by rw [← e1]⟩
          · split at h
            · obtain ⟨x, m, h1, h2⟩ := andThen_ok h
              have e2 := pairsM_end _ h1 hj
              injection h2 with e1 e; exact ⟨by omega, by rw [← e1]⟩
            · split at h
              · obtain ⟨x, m, h1, h2⟩ := andThen_ok h
                obtain ⟨y, n, h3, h4⟩ := andThen_ok h2
                have e1 := (nx_ok h1).2
                have e2 := pairsM_end _ h3 (by omega)
                injection h4 with e1 e; exact ⟨by omega, by rw [← e1]⟩
              · cases h
theorem dataL_le (L : List Int) (i : Nat) (hi : i ≤ L.length) : i + (dataL L i).length ≤ L.length := by
  have : (dataL L i).length ≤ (L.drop i).length := (List.takeWhile_prefix plain).length_le
  rw [List.length_drop] at this
  omega
theorem orderM_end {L : List Int} {i l : Nat} {o : Or} (hi : i < L.length) (h : orderM L i = .ok o l) : l ≤ L.length := by
  unfold orderM at h
  split at h
  · injection h with _ e
    have := dataL_le L i (by omega)
    omega
  · exact (ordK_end h (by omega)).1
theorem Tr.le {L : List Int} {i n : Nat} {os : List Or} {g : Option Flt} (t : Tr L i os n g) (hi : i ≤ L.length) : i ≤ n ∧ n ≤ L.length := by
  induction t with
  | stop h => omega
  | bad h e => omega
  | step h e _ ih =>
    have h1 := orderM_adv h e
    have h2 := orderM_end h e
    have := ih h2
    omega
/-! ### The run of plain bytes -/
theorem takeWhile_take {α : Type} (p : α → Bool) : ∀ (X : List α) (m : Nat), (X.take m).takeWhile p = (X.takeWhile p).take m
  | [], m => by simp
  | x :: X, 0 => by simp
  | x :: X, m + 1 => by
    rw [List.take_succ_cons]
    by_cases h : p x = true
    · rw [List.takeWhile_cons_of_pos h, List.takeWhile_cons_of_pos h, List.take_succ_cons, takeWhile_take p X m]
    · rw [List.takeWhile_cons_of_neg h, List.takeWhile_cons_of_neg h]; rfl
theorem dataL_take (L : List Int) (i n : Nat) (h : i + (dataL L i).length ≤ n) : dataL (L.take n) i = dataL L i := by
  unfold dataL at h ⊢
  rw [List.drop_take, takeWhile_take, List.take_of_length_le (by omega)]
theorem dataL_append (X b : List Int) (i : Nat) (hi : i ≤ X.length) : dataL (X ++ b) i = if i + (dataL X i).length = X.length then dataL X i ++ dataL b 0 else dataL X i := by
  unfold dataL
  rw [List.drop_append_of_le_length hi, List.takeWhile_append, List.length_drop, List.drop_zero]
  have : (List.takeWhile plain (List.drop i X)).length ≤ X.length - i := by rw [← List.length_drop]; exact (List.takeWhile_prefix plain).length_le
  by_cases h : (List.takeWhile plain (List.drop i X)).length = X.length - i
  · rw [if_pos h, if_pos (by omega)]
    rw [← List.length_drop] at h
    rw [(List.takeWhile_prefix plain).eq_of_length h]
  · rw [if_neg h, if_neg (by omega)]
theorem dataL_next (L : List Int) (i : Nat) (hi : i ≤ L.length) (h : i + (dataL L i).length < L.length) : plain (L[i + (dataL L i).length]?.getD 0) = false := by
  unfold dataL at h ⊢
  generalize hX : L.drop i = X at h
  have hlen : X.length = L.length - i := by rw [← hX, List.length_drop]
  have key : ∀ (X : List Int), (X.takeWhile plain).length < X.length → plain (X[(X.takeWhile plain).length]?.getD 0) = false := by
    intro X
    induction X with
    | nil => intro h; simp at h
    | cons x X ih =>
      intro h
      by_cases hp : plain x = true
      · rw [List.takeWhile_cons_of_pos hp] at h ⊢
        simpa using ih (by simpa using h)
      · rw [List.takeWhile_cons_of_neg hp]
        simpa using hp
  have := key X (by omega)
  rw [← hX, List.getElem?_drop] at this
  rw [← hX]
  exact this
end Go.Proofs.YtmmgebiojpnhcaaDoor.Ord
namespace Go.Proofs.YtmmgebiojpnhcaaDoor.Ord
open Go.RowKit Base
set_option linter.unusedVariables false
set_option linter.unusedSimpArgs false

theorem plain0 : plain 0 = true := by decide
/-- The orders ahead of a break are those of the bytes ahead of it. -/
theorem Tr.head {L : List Int} {i n : Nat} {os : List Or} {g : Option Flt} (t : Tr L i os n g) (hi : i ≤ L.length) : Tr (L.take n) i os n none := by
  induction t with
  | stop h => exact .stop (by rw [List.length_take]; omega)
  | bad h e => exact .stop (by rw [List.length_take]; omega)
  | @step i j n o os g h e t ih =>
    have h1 := orderM_adv h e
    have h2 := orderM_end h e
    obtain ⟨h3, h4⟩ := t.le h2
    have hlen : (L.take n).length = n := by rw [List.length_take]; omega
    have hq : ∀ q, q < n → (L.take n)[q]? = L[q]? := fun q hq => List.getElem?_take_of_lt hq
    refine .step (by omega) ?_ (ih h2)
    unfold orderM at e ⊢
    rw [hq i (by omega)]
    split at e
    · next hp =>
      rw [if_pos hp]
      injection e with e1 e2
      rw [dataL_take L i n (by omega), e1, e2]
    · next hp =>
      rw [if_neg hp]
      exact ordK_loc hq e h3
/-! ### The same bytes further on -/
def sh {α : Type} (n : Nat) (r : Rd α) : Rd α := match r with | .ok x j => .ok x (n + j) | .bad f => .bad f
theorem sh_then {α β : Type} {n : Nat} {r : Rd α} {k k' : α → Nat → Rd β} (h : ∀ x l, k x (n + l) = sh n (k' x l)) : (sh n r).andThen k = sh n (r.andThen k') := by
  cases r with
  | ok x l => exact h x l
  | bad f => rfl
section
variable {X b : List Int}
theorem app_get (q : Nat) : (X ++ b)[X.length + q]? = b[q]? := by
  rw [List.getElem?_append_right (by omega)]
  congr 1
  omega
theorem nx_sh (i : Nat) : nx (X ++ b) (X.length + i) = sh X.length (nx b i) := by
  unfold nx
  rw [app_get]
  cases b[i]? <;> rfl
theorem placeM_sh (i : Nat) : placeM (X ++ b) (X.length + i) = sh X.length (placeM b i) := by
  unfold placeM
  rw [nx_sh]
  refine sh_then fun a j => ?_
  rw [nx_sh]
  exact sh_then fun c k => rfl
theorem shownM_sh (c : Int) (ge : Bool) (j : Nat) : shownM c ge (X.length + j) = sh X.length (shownM c ge j) := by
  unfold shownM; split <;> rfl
theorem signM_sh (i : Nat) : signM (X ++ b) (X.length + i) = sh X.length (signM b i) := by
  unfold signM
  rw [nx_sh]
  refine sh_then fun a j => ?_
  split
  · rw [nx_sh]
    exact sh_then fun c k => shownM_sh c true k
  · exact shownM_sh a false j
theorem pairM_sh (kind : Int) (i : Nat) : pairM (X ++ b) kind (X.length + i) = sh X.length (pairM b kind i) := by
  unfold pairM
  rw [nx_sh]
  refine sh_then fun a j => ?_
  rw [nx_sh]
  refine sh_then fun c k => ?_
  split <;> rfl
theorem pairsM_sh (kind : Int) : ∀ (n i : Nat), pairsM (X ++ b) kind n (X.length + i) = sh X.length (pairsM b kind n i)
  | 0, i => rfl
  | n + 1, i => by
    unfold pairsM
    rw [pairM_sh]
    refine sh_then fun p j => ?_
    rw [pairsM_sh kind n j]
    exact sh_then fun ps k => rfl
theorem ordK_sh (k : Int) (j : Nat) : ordK (X ++ b) k (X.length + j) = sh X.length (ordK b k j) := by
  unfold ordK
  split
  · rfl
  · split
    · rw [placeM_sh]; exact sh_then fun x l => rfl
    · split
      · rw [nx_sh]
        refine sh_then fun c l => ?_
        rw [shownM_sh]
        exact sh_then fun p m => rfl
      · split
        · rw [placeM_sh]
          refine sh_then fun x l => ?_
          rw [signM_sh]
          exact sh_then fun p m => rfl
        · split
          · rw [nx_sh]; exact sh_then fun c l => rfl
          · split
            · rw [pairsM_sh]; exact sh_then fun ps l => rfl
            · split
              · rw [nx_sh]
                refine sh_then fun c l => ?_
                rw [pairsM_sh]
                exact sh_then fun ps m => rfl
              · rfl
theorem dataL_sh (i : Nat) : dataL (X ++ b) (X.length + i) = dataL b i := by
  unfold dataL
  rw [List.drop_append, List.drop_eq_nil_of_le (by omega), List.nil_append, show X.length + i - X.length = i by omega]
theorem orderM_sh (i : Nat) : orderM (X ++ b) (X.length + i) = sh X.length (orderM b i) := by
  unfold orderM
  rw [app_get, dataL_sh]
  split
  · show Rd.ok _ (X.length + i + _) = Rd.ok _ (X.length + (i + _))
    rw [Nat.add_assoc]
  · rw [Nat.add_assoc]; exact ordK_sh _ _
theorem Tr.shift {i n : Nat} {os : List Or} {g : Option Flt} (t : Tr b i os n g) : Tr (X ++ b) (X.length + i) os (X.length + n) g := by
  induction t with
  | stop h => exact .stop (by rw [List.length_append]; omega)
  | bad h e => exact .bad (by rw [List.length_append]; omega) (by rw [orderM_sh, e]; rfl)
  | step h e _ ih => exact .step (by rw [List.length_append]; omega) (by rw [orderM_sh, e]; rfl) ih
end
/-! ### Two parts -/
/-- Orders behind orders, data behind data laid together. -/
def glue : List Or → List Or → List Or
  | [], R => R
  | [o], R => match R with
    | [] => [o]
    | d :: r => if o.kind = 0 ∧ d.kind = 0 then { o with data := o.data ++ d.data } :: r else o :: d :: r
  | o :: p :: os, R => o :: glue (p :: os) R
theorem glue_cons (o : Or) (os R : List Or) (h : os ≠ [] ∨ o.kind ≠ 0 ∨ R = [] ∨ ∃ d r, R = d :: r ∧ d.kind ≠ 0) : glue (o :: os) R = o :: glue os R := by
  cases os with
  | cons p os => rfl
  | nil =>
    cases R with
    | nil => rfl
    | cons d r =>
      show (if o.kind = 0 ∧ d.kind = 0 then _ else _) = _
      rw [if_neg]
      · rfl
      · rintro ⟨h1, h2⟩
        rcases h with h | h | h | ⟨d', r', h, h3⟩
        · exact h rfl
        · exact h h1
        · cases h
        · injection h with h4 h5; subst h4; exact h3 h2
theorem orderM_kind {L : List Int} {i j : Nat} {o : Or} (hi : i < L.length) (e : orderM L i = .ok o j) : (plain (L[i]?.getD 0) = true ∧ o = ⟨0, 0, 0, false, [], dataL L i⟩ ∧ j = i + (dataL L i).length) ∨ (plain (L[i]?.getD 0) = false ∧ o.kind ≠ 0 ∧ ordK L (L[i]?.getD 0) (i + 1) = .ok o j) := by
  unfold orderM at e
  split at e
  · next hp => injection e with e1 e2; exact .inl ⟨hp, e1.symm, e2.symm⟩
  · next hp =>
    refine .inr ⟨by simpa using hp, ?_, e⟩
    rw [(ordK_end e (by omega)).2]
    intro h0
    rw [h0] at hp
    exact hp plain0
theorem Tr.two {X b : List Int} {i n : Nat} {os : List Or} {g : Option Flt} (t : Tr X i os n g) (hn : n = X.length) (hg : g = none) (hi : i ≤ X.length) {rest : List Or} {k : Nat} {f : Option Flt} (u : Tr b 0 rest k f) : Tr (X ++ b) i (glue os rest) (X.length + k) f := by
  induction t with
  | stop h =>
    have e : X.length + 0 = X.length := rfl
    have := u.shift (X := X)
    rw [e] at this
    subst hn
    exact this
  | bad h e => cases hg
  | @step i j n o os g h e t ih =>
    have h1 := orderM_adv h e
    have h2 := orderM_end h e
    have ih := ih hn hg h2
    have hq : ∀ q, q < X.length → (X ++ b)[q]? = X[q]? := fun q hq => List.getElem?_append_left hq
    have hlen : i < (X ++ b).length := by rw [List.length_append]; omega
    rcases orderM_kind h e with ⟨hp, rfl, rfl⟩ | ⟨hp, hk, e2⟩
    · have happ := dataL_append X b i hi
      by_cases hend : i + (dataL X i).length = X.length
      · rw [if_pos hend] at happ
        have hos : os = [] := by
          cases t with
          | stop _ => rfl
          | bad h _ => omega
          | step h _ _ => omega
        subst hos
        by_cases hb : dataL b 0 = []
        · rw [hb, List.append_nil] at happ
          have hrest : rest = [] ∨ ∃ d r, rest = d :: r ∧ d.kind ≠ 0 := by
            cases u with
            | stop _ => exact .inl rfl
            | bad _ _ => exact .inl rfl
            | step hu eu _ =>
              refine .inr ⟨_, _, rfl, ?_⟩
              rcases orderM_kind hu eu with ⟨hp2, _, _⟩ | ⟨_, hk2, _⟩
              · exfalso
                unfold dataL at hb
                rw [List.drop_eq_getElem_cons hu, List.takeWhile_cons_of_pos (by simpa [hu] using hp2)] at hb
                cases hb
              · exact hk2
          rw [glue_cons _ _ _ (.inr (.inr hrest))]
          refine .step hlen ?_ ih
          unfold orderM
          rw [hq i h, if_pos hp, happ]
        · obtain ⟨r, k0, rfl, ur⟩ : ∃ r k0, rest = ⟨0, 0, 0, false, [], dataL b 0⟩ :: r ∧ k0 = 0 + (dataL b 0).length ∧ Tr b k0 r k f := by
            cases u with
            | stop hu =>
              exfalso
              apply hb
              unfold dataL
              rw [List.drop_eq_nil_of_le hu]; rfl
            | bad hu eu =>
              exfalso
              unfold orderM at eu
              split at eu
              · cases eu
              · next hp2 =>
                apply hb
                unfold dataL
                rw [List.drop_eq_getElem_cons hu, List.takeWhile_cons_of_neg (by simpa [hu] using hp2)]
            | step hu eu tu =>
              rcases orderM_kind hu eu with ⟨hp2, rfl, rfl⟩ | ⟨hp2, _, _⟩
              · exact ⟨_, _, rfl, rfl, tu⟩
              · exfalso
                apply hb
                unfold dataL
                rw [List.drop_eq_getElem_cons hu, List.takeWhile_cons_of_neg (by simpa [hu] using hp2)]
          obtain ⟨rfl, ur⟩ := ur
          show Tr (X ++ b) i (⟨0, 0, 0, false, [], dataL X i ++ dataL b 0⟩ :: r) _ _
          refine .step (j := X.length + (0 + (dataL b 0).length)) hlen ?_ ur.shift
          unfold orderM
          rw [hq i h, if_pos hp, happ, List.length_append]
          congr 1
          omega
      · rw [if_neg hend] at happ
        have hos : os ≠ [] := by
          cases t with
          | stop h => omega
          | bad h _ => cases hg
          | step h _ _ => simp
        rw [glue_cons _ _ _ (.inl hos)]
        refine .step hlen ?_ ih
        unfold orderM
        rw [hq i h, if_pos hp, happ]
    · rw [glue_cons _ _ _ (.inr (.inl hk))]
      refine .step hlen ?_ ih
      unfold orderM
      rw [hq i h, if_neg (by rw [hp]; simp)]
      exact ordK_loc hq e2 h2
end Go.Proofs.YtmmgebiojpnhcaaDoor.Ord
namespace Go.Proofs.YtmmgebiojpnhcaaDoor.Ord
open Go.RowKit Base
set_option linter.unusedVariables false
set_option linter.unusedSimpArgs false

def joinStep (out : List Or) (o : Or) : List Or :=
  if o.kind = 0 ∧ o.data = [] then out
  else match out.getLast? with
    | some p => if o.kind = 0 ∧ p.kind = 0 then out.dropLast ++ [{ p with data := p.data ++ o.data }] else out ++ [o]
    | none => out ++ [o]
def joinO (L : List Or) : List Or := L.foldl joinStep []
/-- No data without bytes, none behind data. -/
def Nm : List Or → Prop
  | [] => True
  | o :: os => (o.kind = 0 → o.data ≠ [] ∧ ∀ d r, os = d :: r → d.kind ≠ 0) ∧ Nm os
theorem Tr.nm {L : List Int} {i n : Nat} {os : List Or} {g : Option Flt} (t : Tr L i os n g) : Nm os := by
  induction t with
  | stop h => trivial
  | bad h e => trivial
  | @step i j n o os g h e t ih =>
    refine ⟨fun h0 => ?_, ih⟩
    rcases orderM_kind h e with ⟨hp, rfl, rfl⟩ | ⟨_, hk, _⟩
    · constructor
      · show dataL L i ≠ []
        unfold dataL
        rw [List.drop_eq_getElem_cons h, List.takeWhile_cons_of_pos (by simpa [h] using hp)]
        simp
      · rintro d r rfl
        cases t with
        | step h2 e2 _ =>
          have hx := dataL_next L i (by omega) h2
          rcases orderM_kind h2 e2 with ⟨hp2, _, _⟩ | ⟨_, hk, _⟩
          · rw [hx] at hp2; cases hp2
          · exact hk
    · exact absurd h0 hk
theorem fold_nm : ∀ (M out : List Or), Nm M → (∀ p, out.getLast? = some p → p.kind = 0 → ∀ d r, M = d :: r → d.kind ≠ 0) → M.foldl joinStep out = out ++ M
  | [], out, _, _ => by simp
  | d :: r, out, hM, hl => by
    obtain ⟨h1, h2⟩ := hM
    have hs : joinStep out d = out ++ [d] := by
      unfold joinStep
      rw [if_neg (fun h => (h1 h.1).1 h.2)]
      cases hg : out.getLast? with
      | none => rfl
      | some p =>
        simp only
        rw [if_neg (fun h => hl p hg h.2 d r rfl h.1)]
    rw [List.foldl_cons, hs, fold_nm r (out ++ [d]) h2 (fun p hp h0 d' r' e => by
      rw [List.getLast?_append, List.getLast?_singleton] at hp
      have : d = p := by simpa using hp
      subst this
      exact (h1 h0).2 d' r' e)]
    simp
theorem glue_nil (os : List Or) : glue os [] = os := by
  induction os with
  | nil => rfl
  | cons o os ih => rw [glue_cons _ _ _ (.inr (.inr (.inl rfl))), ih]
theorem glue_last (A : List Or) (p : Or) (R : List Or) : glue (A ++ [p]) R = A ++ glue [p] R := by
  induction A with
  | nil => rfl
  | cons a A ih =>
    show glue (a :: (A ++ [p])) R = _
    rw [glue_cons _ _ _ (.inl (by simp)), ih]
    rfl
theorem glue_join {os R : List Or} (h : Nm os) (k : Nm R) : joinO (os ++ R) = glue os R := by
  have h0 : os.foldl joinStep [] = os := by
    have := fold_nm os [] h (fun p hp => by simp at hp)
    simpa using this
  unfold joinO
  rw [List.foldl_append, h0]
  rcases List.eq_nil_or_concat os with rfl | ⟨A, p, rfl⟩
  · rw [fold_nm R [] k (fun p hp => by simp at hp)]; rfl
  · rw [List.concat_eq_append, glue_last]
    cases R with
    | nil => rfl
    | cons d r =>
      by_cases hc : p.kind = 0 ∧ d.kind = 0
      · have hs : joinStep (A ++ [p]) d = A ++ [{ p with data := p.data ++ d.data }] := by
          unfold joinStep
          rw [if_neg (fun h => (k.1 h.1).1 h.2)]
          rw [List.getLast?_append, List.getLast?_singleton]
          simp only [Option.some_or]
          rw [if_pos ⟨hc.2, hc.1⟩, List.dropLast_concat]
        rw [List.foldl_cons, hs, fold_nm r _ k.2 (fun q hq h0 d' r' e => (k.1 hc.2).2 d' r' e)]
        show A ++ [_] ++ r = A ++ (if p.kind = 0 ∧ d.kind = 0 then _ else _)
        rw [if_pos hc, List.append_assoc]
        rfl
      · rw [fold_nm (d :: r) (A ++ [p]) k (fun q hq h0 d' r' e => by
          rw [List.getLast?_append, List.getLast?_singleton] at hq
          have : p = q := by simpa using hq
          subst this
          injection e with e1 e2
          subst e1
          exact fun hd => hc ⟨h0, hd⟩)]
        show A ++ [p] ++ (d :: r) = A ++ (if p.kind = 0 ∧ d.kind = 0 then _ else _)
        rw [if_neg hc, List.append_assoc]
        rfl
/-- What the statement asks of parses, plainly. -/
theorem parse_head (L : List Int) (os : List Or) (n : Nat) (g : Option Flt) (h : parseL L (L.length + 1) 0 = (os, n, g)) : n ≤ L.length ∧ parseL (L.take n) ((L.take n).length + 1) 0 = (os, n, none) ∧ (g = none → n = L.length) := by
  have t : Tr L 0 os n g := by
    have t := Tr.of L (L.length + 1) 0 (by omega)
    rw [h] at t
    exact t
  obtain ⟨_, h2⟩ := t.le (by omega)
  refine ⟨h2, (t.head (by omega)).eq _ (by omega), ?_⟩
  have key : ∀ {i n : Nat} {os : List Or} {g : Option Flt}, Tr L i os n g → i ≤ L.length → g = none → n = L.length := by
    intro i n os g t
    induction t with
    | stop h => intro hi _; omega
    | bad h e => intro _ hg; cases hg
    | step h e _ ih => intro _ hg; exact ih (orderM_end h e) hg
  exact key t (by omega)
theorem parse_two (X b : List Int) (os rest : List Or) (k : Nat) (g : Option Flt) (h : parseL X (X.length + 1) 0 = (os, X.length, none)) (h2 : parseL b (b.length + 1) 0 = (rest, k, g)) : parseL (X ++ b) ((X ++ b).length + 1) 0 = (joinO (os ++ rest), X.length + k, g) := by
  have t : Tr X 0 os X.length none := by
    have t := Tr.of X (X.length + 1) 0 (by omega)
    rw [h] at t
    exact t
  have u : Tr b 0 rest k g := by
    have u := Tr.of b (b.length + 1) 0 (by omega)
    rw [h2] at u
    exact u
  rw [glue_join t.nm u.nm]
  exact (t.two rfl rfl (by omega) u).eq _ (by omega)
end Go.Proofs.YtmmgebiojpnhcaaDoor.Ord
