/-
  What stands ahead of a break; bytes behind bytes that are orders: plainly.
-/
import Derived.Test.YtjeknociobbhpaaDoorOrdO
namespace Go.Proofs.YtjeknociobbhpaaDoor.Ord
open Go.RowKit Base
set_option linter.unusedVariables false
set_option linter.unusedSimpArgs false

theorem plain0 : plain 0 = true := by decide
/-- The orders ahead of a break are those of the bytes ahead of it. -/
theorem Tr.head {L : List Int} {i n : Nat} {os : List Or} {g : Option Flt} (t : Tr L i os n g) (hi : i ≤ L.length) : Tr (L.take n) i os n none := by
  induction t with
  | stop h => exact .stop (by rw [List.length_take]; omega)
  | bad h e => exact .stop (by rw [List.length_take]; omega)
  | @step i j n o os g h e t ih =>
    have h1 := orderM_adv h e
    have h2 := orderM_end h e
    obtain ⟨h3, h4⟩ := t.le h2
    have hlen : (L.take n).length = n := by rw [List.length_take]; omega
    have hq : ∀ q, q < n → (L.take n)[q]? = L[q]? := fun q hq => List.getElem?_take_of_lt hq
    refine .step (by omega) ?_ (ih h2)
    unfold orderM at e ⊢
    rw [hq i (by omega)]
    split at e
    · next hp =>
      rw [if_pos hp]
      injection e with e1 e2
      rw [dataL_take L i n (by omega), e1, e2]
    · next hp =>
      rw [if_neg hp]
      exact ordK_loc hq e h3
/-! ### The same bytes further on -/
def sh {α : Type} (n : Nat) (r : Rd α) : Rd α := match r with | .ok x j => .ok x (n + j) | .bad f => .bad f
theorem sh_then {α β : Type} {n : Nat} {r : Rd α} {k k' : α → Nat → Rd β} (h : ∀ x l, k x (n + l) = sh n (k' x l)) : (sh n r).andThen k = sh n (r.andThen k') := by
  cases r with
  | ok x l => exact h x l
  | bad f => rfl
section
variable {X b : List Int}
theorem app_get (q : Nat) : (X ++ b)[X.length + q]? = b[q]? := by
  rw [List.getElem?_append_right (by omega)]
  congr 1
  omega
theorem nx_sh (i : Nat) : nx (X ++ b) (X.length + i) = sh X.length (nx b i) := by
  unfold nx
  rw [app_get]
  cases b[i]? <;> rfl
theorem placeM_sh (i : Nat) : placeM (X ++ b) (X.length + i) = sh X.length (placeM b i) := by
  unfold placeM
  rw [nx_sh]
  refine sh_then fun a j => ?_
  rw [nx_sh]
  exact sh_then fun c k => rfl
theorem shownM_sh (c : Int) (ge : Bool) (j : Nat) : shownM c ge (X.length + j) = sh X.length (shownM c ge j) := by
  unfold shownM; split <;> rfl
theorem signM_sh (i : Nat) : signM (X ++ b) (X.length + i) = sh X.length (signM b i) := by
  unfold signM
  rw [nx_sh]
  refine sh_then fun a j => ?_
  split
  · rw [nx_sh]
    exact sh_then fun c k => shownM_sh c true k
  · exact shownM_sh a false j
theorem pairM_sh (kind : Int) (i : Nat) : pairM (X ++ b) kind (X.length + i) = sh X.length (pairM b kind i) := by
  unfold pairM
  rw [nx_sh]
  refine sh_then fun a j => ?_
  rw [nx_sh]
  refine sh_then fun c k => ?_
  split <;> rfl
theorem pairsM_sh (kind : Int) : ∀ (n i : Nat), pairsM (X ++ b) kind n (X.length + i) = sh X.length (pairsM b kind n i)
  | 0, i => rfl
  | n + 1, i => by
    unfold pairsM
    rw [pairM_sh]
    refine sh_then fun p j => ?_
    rw [pairsM_sh kind n j]
    exact sh_then fun ps k => rfl
theorem ordK_sh (k : Int) (j : Nat) : ordK (X ++ b) k (X.length + j) = sh X.length (ordK b k j) := by
  unfold ordK
  split
  · rfl
  · split
    · rw [placeM_sh]; exact sh_then fun x l => rfl
    · split
      · rw [nx_sh]
        refine sh_then fun c l => ?_
        rw [shownM_sh]
        exact sh_then fun p m => rfl
      · split
        · rw [placeM_sh]
          refine sh_then fun x l => ?_
          rw [signM_sh]
          exact sh_then fun p m => rfl
        · split
          · rw [nx_sh]; exact sh_then fun c l => rfl
          · split
            · rw [pairsM_sh]; exact sh_then fun ps l => rfl
            · split
              · rw [nx_sh]
                refine sh_then fun c l => ?_
                rw [pairsM_sh]
                exact sh_then fun ps m => rfl
              · rfl
theorem dataL_sh (i : Nat) : dataL (X ++ b) (X.length + i) = dataL b i := by
  unfold dataL
  rw [List.drop_append, List.drop_eq_nil_of_le (by omega), List.nil_append, show X.length + i - X.length = i by omega]
theorem orderM_sh (i : Nat) : orderM (X ++ b) (X.length + i) = sh X.length (orderM b i) := by
  unfold orderM
  rw [app_get, dataL_sh]
  split
  · show Rd.ok _ (X.length + i + _) = Rd.ok _ (X.length + (i + _))
    rw [Nat.add_assoc]
  · rw [Nat.add_assoc]; exact ordK_sh _ _
theorem Tr.shift {i n : Nat} {os : List Or} {g : Option Flt} (t : Tr b i os n g) : Tr (X ++ b) (X.length + i) os (X.length + n) g := by
  induction t with
  | stop h => exact .stop (by rw [List.length_append]; omega)
  | bad h e => exact .bad (by rw [List.length_append]; omega) (by rw [orderM_sh, e]; rfl)
  | step h e _ ih => exact .step (by rw [List.length_append]; omega) (by rw [orderM_sh, e]; rfl) ih
end
/-! ### Two parts -/
/-- Orders behind orders, data behind data laid together. -/
def glue : List Or → List Or → List Or
  | [], R => R
  | [o], R => match R with
    | [] => [o]
    | d :: r => if o.kind = 0 ∧ d.kind = 0 then { o with data := o.data ++ d.data } :: r else o :: d :: r
  | o :: p :: os, R => o :: glue (p :: os) R
theorem glue_cons (o : Or) (os R : List Or) (h : os ≠ [] ∨ o.kind ≠ 0 ∨ R = [] ∨ ∃ d r, R = d :: r ∧ d.kind ≠ 0) : glue (o :: os) R = o :: glue os R := by
  cases os with
  | cons p os => rfl
  | nil =>
    cases R with
    | nil => rfl
    | cons d r =>
      show (if o.kind = 0 ∧ d.kind = 0 then _ else _) = _
      rw [if_neg]
      · rfl
      · rintro ⟨h1, h2⟩
        rcases h with h | h | h | ⟨d', r', h, h3⟩
        · exact h rfl
        · exact h h1
        · cases h
        · injection h with h4 h5; subst h4; exact h3 h2
theorem orderM_kind {L : List Int} {i j : Nat} {o : Or} (hi : i < L.length) (e : orderM L i = .ok o j) : (plain (L[i]?.getD 0) = true ∧ o = ⟨0, 0, 0, false, [], dataL L i⟩ ∧ j = i + (dataL L i).length) ∨ (plain (L[i]?.getD 0) = false ∧ o.kind ≠ 0 ∧ ordK L (L[i]?.getD 0) (i + 1) = .ok o j) := by
  unfold orderM at e
  split at e
  · next hp => injection e with e1 e2; exact .inl ⟨hp, e1.symm, e2.symm⟩
  · next hp =>
    refine .inr ⟨by simpa using hp, ?_, e⟩
    rw [(ordK_end e (by omega)).2]
    intro h0
    rw [h0] at hp
    exact hp plain0
theorem Tr.two {X b : List Int} {i n : Nat} {os : List Or} {g : Option Flt} (t : Tr X i os n g) (hn : n = X.length) (hg : g = none) (hi : i ≤ X.length) {rest : List Or} {k : Nat} {f : Option Flt} (u : Tr b 0 rest k f) : Tr (X ++ b) i (glue os rest) (X.length + k) f := by
  induction t with
  | stop h =>
    have e : X.length + 0 = X.length := rfl
    have := u.shift (X := X)
    rw [e] at this
    subst hn
    exact this
  | bad h e => cases hg
  | @step i j n o os g h e t ih =>
    have h1 := orderM_adv h e
    have h2 := orderM_end h e
    have ih := ih hn hg h2
    have hq : ∀ q, q < X.length → (X ++ b)[q]? = X[q]? := fun q hq => List.getElem?_append_left hq
    have hlen : i < (X ++ b).length := by rw [List.length_append]; omega
    rcases orderM_kind h e with ⟨hp, rfl, rfl⟩ | ⟨hp, hk, e2⟩
    · have happ := dataL_append X b i hi
      by_cases hend : i + (dataL X i).length = X.length
      · rw [if_pos hend] at happ
        have hos : os = [] := by
          cases t with
          | stop _ => rfl
          | bad h _ => omega
          | step h _ _ => omega
        subst hos
        by_cases hb : dataL b 0 = []
        · rw [hb, List.append_nil] at happ
          have hrest : rest = [] ∨ ∃ d r, rest = d :: r ∧ d.kind ≠ 0 := by
            cases u with
            | stop _ => exact .inl rfl
            | bad _ _ => exact .inl rfl
            | step hu eu _ =>
              refine .inr ⟨_, _, rfl, ?_⟩
              rcases orderM_kind hu eu with ⟨hp2, _, _⟩ | ⟨_, hk2, _⟩
              · exfalso
                unfold dataL at hb
                rw [List.drop_eq_getElem_cons hu, List.takeWhile_cons_of_pos (by simpa [hu] using hp2)] at hb
                cases hb
              · exact hk2
          rw [glue_cons _ _ _ (.inr (.inr hrest))]
          refine .step hlen ?_ ih
          unfold orderM
          rw [hq i h, if_pos hp, happ]
        · obtain ⟨r, k0, rfl, ur⟩ : ∃ r k0, rest = ⟨0, 0, 0, false, [], dataL b 0⟩ :: r ∧ k0 = 0 + (dataL b 0).length ∧ Tr b k0 r k f := by
            cases u with
            | stop hu =>
              exfalso
              apply hb
              unfold dataL
              rw [List.drop_eq_nil_of_le hu]; rfl
            | bad hu eu =>
              exfalso
              unfold orderM at eu
              split at eu
              · cases eu
              · next hp2 =>
                apply hb
                unfold dataL
                rw [List.drop_eq_getElem_cons hu, List.takeWhile_cons_of_neg (by simpa [hu] using hp2)]
            | step hu eu tu =>
              rcases orderM_kind hu eu with ⟨hp2, rfl, rfl⟩ | ⟨hp2, _, _⟩
              · exact ⟨_, _, rfl, rfl, tu⟩
              · exfalso
                apply hb
                unfold dataL
                rw [List.drop_eq_getElem_cons hu, List.takeWhile_cons_of_neg (by simpa [hu] using hp2)]
          obtain ⟨rfl, ur⟩ := ur
          show Tr (X ++ b) i (⟨0, 0, 0, false, [], dataL X i ++ dataL b 0⟩ :: r) _ _
          refine .step (j := X.length + (0 + (dataL b 0).length)) hlen ?_ ur.shift
          unfold orderM
          rw [hq i h, if_pos hp, happ, List.length_append]
          congr 1
          omega
      · rw [if_neg hend] at happ
        have hos : os ≠ [] := by
          cases t with
          | stop h => omega
          | bad h _ => cases hg
          | step h _ _ => simp
        rw [glue_cons _ _ _ (.inl hos)]
        refine .step hlen ?_ ih
        unfold orderM
        rw [hq i h, if_pos hp, happ]
    · rw [glue_cons _ _ _ (.inr (.inl hk))]
      refine .step hlen ?_ ih
      unfold orderM
      rw [hq i h, if_neg (by rw [hp]; simp)]
      exact ordK_loc hq e2 h2
end Go.Proofs.YtjeknociobbhpaaDoor.Ord
