/-
  Orders with data behind data laid together: plainly.
-/
import Derived.Test.YtjeknociobbhpaaDoorOrdP
namespace Go.Proofs.YtjeknociobbhpaaDoor.Ord
open Go.RowKit Base
set_option linter.unusedVariables false
set_option linter.unusedSimpArgs false

def joinStep (out : List Or) (o : Or) : List Or :=
  if o.kind = 0 ∧ o.data = [] then out
  else match out.getLast? with
    | some p => if o.kind = 0 ∧ p.kind = 0 then out.dropLast ++ [{ p with data := p.data ++ o.data }] else out ++ [o]
    | none => out ++ [o]
def joinO (L : List Or) : List Or := L.foldl joinStep []
/-- No data without bytes, none behind data. -/
def Nm : List Or → Prop
  | [] => True
  | o :: os => (o.kind = 0 → o.data ≠ [] ∧ ∀ d r, os = d :: r → d.kind ≠ 0) ∧ Nm os
theorem Tr.nm {L : List Int} {i n : Nat} {os : List Or} {g : Option Flt} (t : Tr L i os n g) : Nm os := by
  induction t with
  | stop h => trivial
  | bad h e => trivial
  | @step i j n o os g h e t ih =>
    refine ⟨fun h0 => ?_, ih⟩
    rcases orderM_kind h e with ⟨hp, rfl, rfl⟩ | ⟨_, hk, _⟩
    · constructor
      · show dataL L i ≠ []
        unfold dataL
        rw [List.drop_eq_getElem_cons h, List.takeWhile_cons_of_pos (by simpa [h] using hp)]
        simp
      · rintro d r rfl
        cases t with
        | step h2 e2 _ =>
          have hx := dataL_next L i (by omega) h2
          rcases orderM_kind h2 e2 with ⟨hp2, _, _⟩ | ⟨_, hk, _⟩
          · rw [hx] at hp2; cases hp2
          · exact hk
    · exact absurd h0 hk
theorem fold_nm : ∀ (M out : List Or), Nm M → (∀ p, out.getLast? = some p → p.kind = 0 → ∀ d r, M = d :: r → d.kind ≠ 0) → M.foldl joinStep out = out ++ M
  | [], out, _, _ => by simp
  | d :: r, out, hM, hl => by
    obtain ⟨h1, h2⟩ := hM
    have hs : joinStep out d = out ++ [d] := by
      unfold joinStep
      rw [if_neg (fun h => (h1 h.1).1 h.2)]
      cases hg : out.getLast? with
      | none => rfl
      | some p =>
        simp only
        rw [if_neg (fun h => hl p hg h.2 d r rfl h.1)]
    rw [List.foldl_cons, hs, fold_nm r (out ++ [d]) h2 (fun p hp h0 d' r' e => by
      rw [List.getLast?_append, List.getLast?_singleton] at hp
      have : d = p := by simpa using hp
      subst this
      exact (h1 h0).2 d' r' e)]
    simp
theorem glue_nil (os : List Or) : glue os [] = os := by
  induction os with
  | nil => rfl
  | cons o os ih => rw [glue_cons _ _ _ (.inr (.inr (.inl rfl))), ih]
theorem glue_last (A : List Or) (p : Or) (R : List Or) : glue (A ++ [p]) R = A ++ glue [p] R := by
  induction A with
  | nil => rfl
  | cons a A ih =>
    show glue (a :: (A ++ [p])) R = _
    rw [glue_cons _ _ _ (.inl (by simp)), ih]
    rfl
theorem glue_join {os R : List Or} (h : Nm os) (k : Nm R) : joinO (os ++ R) = glue os R := by
  have h0 : os.foldl joinStep [] = os := by
    have := fold_nm os [] h (fun p hp => by simp at hp)
    simpa using this
  unfold joinO
  rw [List.foldl_append, h0]
  rcases List.eq_nil_or_concat os with rfl | ⟨A, p, rfl⟩
  · rw [fold_nm R [] k (fun p hp => by simp at hp)]; rfl
  · rw [List.concat_eq_append, glue_last]
    cases R with
    | nil => rfl
    | cons d r =>
      by_cases hc : p.kind = 0 ∧ d.kind = 0
      · have hs : joinStep (A ++ [p]) d = A ++ [{ p with data := p.data ++ d.data }] := by
          unfold joinStep
          rw [if_neg (fun h => (k.1 h.1).1 h.2)]
          rw [List.getLast?_append, List.getLast?_singleton]
          simp only [Option.some_or]
          rw [if_pos ⟨hc.2, hc.1⟩, List.dropLast_concat]
        rw [List.foldl_cons, hs, fold_nm r _ k.2 (fun q hq h0 d' r' e => (k.1 hc.2).2 d' r' e)]
        show A ++ [_] ++ r = A ++ (if p.kind = 0 ∧ d.kind = 0 then _ else _)
        rw [if_pos hc, List.append_assoc]
        rfl
      · rw [fold_nm (d :: r) (A ++ [p]) k (fun q hq h0 d' r' e => by
          rw [List.getLast?_append, List.getLast?_singleton] at hq
          have : p = q := by simpa using hq
          subst this
          injection e with e1 e2
          subst e1
          exact fun hd => hc ⟨h0, hd⟩)]
        show A ++ [p] ++ (d :: r) = A ++ (if p.kind = 0 ∧ d.kind = 0 then _ else _)
        rw [if_neg hc, List.append_assoc]
        rfl
/-- What the statement asks of parses, plainly. -/
theorem parse_head (L : List Int) (os : List Or) (n : Nat) (g : Option Flt) (h : parseL L (L.length + 1) 0 = (os, n, g)) : n ≤ L.length ∧ parseL (L.take n) ((L.take n).length + 1) 0 = (os, n, none) ∧ (g = none → n = L.length) := by
  have t : Tr L 0 os n g := by
    have t := Tr.of L (L.length + 1) 0 (by omega)
    rw [h] at t
    exact t
  obtain ⟨_, h2⟩ := t.le (by omega)
  refine ⟨h2, (t.head (by omega)).eq _ (by omega), ?_⟩
  have key : ∀ {i n : Nat} {os : List Or} {g : Option Flt}, Tr L i os n g → i ≤ L.length → g = none → n = L.length := by
    intro i n os g t
    induction t with
    | stop h => intro hi _; omega
    | bad h e => intro _ hg; cases hg
    | step h e _ ih => intro _ hg; exact ih (orderM_end h e) hg
  exact key t (by omega)
theorem parse_two (X b : List Int) (os rest : List Or) (k : Nat) (g : Option Flt) (h : parseL X (X.length + 1) 0 = (os, X.length, none)) (h2 : parseL b (b.length + 1) 0 = (rest, k, g)) : parseL (X ++ b) ((X ++ b).length + 1) 0 = (joinO (os ++ rest), X.length + k, g) := by
  have t : Tr X 0 os X.length none := by
    have t := Tr.of X (X.length + 1) 0 (by omega)
    rw [h] at t
    exact t
  have u : Tr b 0 rest k g := by
    have u := Tr.of b (b.length + 1) 0 (by omega)
    rw [h2] at u
    exact u
  rw [glue_join t.nm u.nm]
  exact (t.two rfl rfl (by omega) u).eq _ (by omega)
end Go.Proofs.YtjeknociobbhpaaDoor.Ord
