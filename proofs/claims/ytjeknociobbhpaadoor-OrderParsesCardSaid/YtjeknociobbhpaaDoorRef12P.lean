/-
  Orders, plainly: what each kind has behind it.
-/
import Derived.Test.YtjeknociobbhpaaDoorRef12C
import Derived.Test.YtjeknociobbhpaaDoorOrdO
import Derived.Test.YtjeknociobbhpaaDoorDigB
namespace Go.Proofs.YtjeknociobbhpaaDoor.Ord
open Go.RowKit Base
set_option linter.unusedVariables false
set_option linter.unusedSimpArgs false

theorem decP_dec (a b : Int) : Dig.decP a b = dec a b := by
  unfold Dig.decP dec
  split <;> omega
theorem nx_some {L : List Int} {i : Nat} {x : Int} (h : L[i]? = some x) : nx L i = .ok x (i + 1) := by
  unfold nx; rw [h]
theorem place_short {L : List Int} {i : Nat} {β : Type} {f : Int → Nat → Rd β} (h : L.length ≤ i + 1 + 1) : (placeM L (i + 1)).andThen f = .bad .short := by
  unfold placeM
  rcases Nat.lt_or_ge (i + 1) L.length with hi | hi
  · rw [nx_lt hi]
    show ((nx L (i + 1 + 1)).andThen _).andThen _ = _
    rw [nx_end h]; rfl
  · rw [nx_end hi]; rfl
theorem place_ok {L : List Int} {i : Nat} {x y : Int} {β : Type} {f : Int → Nat → Rd β} (hx : L[i + 1]? = some x) (hy : L[i + 2]? = some y) : (placeM L (i + 1)).andThen f = f (dec x y) (i + 3) := by
  unfold placeM
  rw [nx_some hx]
  show ((nx L (i + 1 + 1)).andThen _).andThen _ = _
  rw [nx_some (show L[i + 1 + 1]? = some y from hy)]
  rfl
theorem nx1_short {L : List Int} {i : Nat} {β : Type} {f : Int → Nat → Rd β} (h : L.length ≤ i + 1) : (nx L (i + 1)).andThen f = .bad .short := by
  rw [nx_end h]; rfl
theorem ge_bad {L : List Int} {i : Nat} {x : Int} (h : L[i + 1]? = some x) (hx : x < 64) : ordK L 8 (i + 1) = .bad .none := by
  show (nx L (i + 1)).andThen (fun c l => (shownM c true l).andThen fun p m => Rd.ok (⟨8, 0, p.1, false, [], []⟩ : Or) m) = _
  rw [nx_some h]
  show (shownM x true (i + 1 + 1)).andThen _ = _
  unfold shownM standsB
  rw [if_neg (by simp; omega)]
  rfl
theorem ge_ok {L : List Int} {i : Nat} {x : Int} (h : L[i + 1]? = some x) (hx : ¬ x < 64) : ordK L 8 (i + 1) = .ok ⟨8, 0, x, false, [], []⟩ (i + 2) := by
  show (nx L (i + 1)).andThen (fun c l => (shownM c true l).andThen fun p m => Rd.ok (⟨8, 0, p.1, false, [], []⟩ : Or) m) = _
  rw [nx_some h]
  show (shownM x true (i + 1 + 1)).andThen _ = _
  unfold shownM standsB
  rw [if_pos (by simp; omega)]
  rfl
theorem ra_short {L : List Int} {i : Nat} {β : Type} {f : Int → Int × Bool → Nat → Rd β} (h : L.length ≤ i + 3) : ((placeM L (i + 1)).andThen fun x l => (signM L l).andThen fun p m => f x p m) = .bad .short := by
  rcases Nat.lt_or_ge (i + 2) L.length with hi | hi
  · rw [place_ok (List.getElem?_eq_getElem (show i + 1 < L.length by omega)) (List.getElem?_eq_getElem hi)]
    unfold signM
    rw [nx_end h]
    rfl
  · exact place_short hi
theorem sign8 {L : List Int} {j : Nat} (hz : L[j]? = some 8) : signM L j = (nx L (j + 1)).andThen fun c k => shownM c true k := by
  unfold signM
  rw [nx_some hz]
  rfl
theorem sign_else {L : List Int} {j : Nat} {z : Int} (hz : L[j]? = some z) (h8 : ¬ z = 8) : signM L j = shownM z false (j + 1) := by
  unfold signM
  rw [nx_some hz]
  exact if_neg h8
theorem sign_short {L : List Int} {i : Nat} {β : Type} {f : Int × Bool → Nat → Rd β} (hz : L[i + 3]? = some 8) (h : L.length ≤ i + 4) : (signM L (i + 3)).andThen f = .bad .short := by
  rw [sign8 hz, nx_end h]
  rfl
theorem sign_none {L : List Int} {i : Nat} {u : Int} {β : Type} {f : Int × Bool → Nat → Rd β} (hz : L[i + 3]? = some 8) (hu : L[i + 4]? = some u) (h : u < 64) : (signM L (i + 3)).andThen f = .bad .none := by
  rw [sign8 hz, nx_some (show L[i + 3 + 1]? = some u from hu)]
  show (shownM u true _).andThen f = _
  unfold shownM standsB
  rw [if_neg (by simp; omega)]
  rfl
theorem sign_ge {L : List Int} {i : Nat} {u : Int} {β : Type} {f : Int × Bool → Nat → Rd β} (hz : L[i + 3]? = some 8) (hu : L[i + 4]? = some u) (h : ¬ u < 64) : (signM L (i + 3)).andThen f = f (u, true) (i + 5) := by
  rw [sign8 hz, nx_some (show L[i + 3 + 1]? = some u from hu)]
  show (shownM u true _).andThen f = _
  unfold shownM standsB
  rw [if_pos (by simp; omega)]
  rfl
theorem sign_ok {L : List Int} {i : Nat} {z : Int} {β : Type} {f : Int × Bool → Nat → Rd β} (hz : L[i + 3]? = some z) (h8 : ¬ z = 8) (h : plain z = true) : (signM L (i + 3)).andThen f = f (z, false) (i + 4) := by
  rw [sign_else hz h8]
  unfold shownM standsB
  rw [if_pos (by simpa using h)]
  rfl
theorem sign_bad {L : List Int} {i : Nat} {z : Int} {β : Type} {f : Int × Bool → Nat → Rd β} (hz : L[i + 3]? = some z) (h8 : ¬ z = 8) (h : plain z = false) : (signM L (i + 3)).andThen f = .bad .none := by
  rw [sign_else hz h8]
  unfold shownM standsB
  rw [if_neg (by simp [h])]
  rfl
theorem sf_ok {L : List Int} {i : Nat} {x : Int} (h : L[i + 1]? = some x) : ordK L 29 (i + 1) = .ok ⟨29, 0, x % 64, false, [], []⟩ (i + 2) := by
  show (nx L (i + 1)).andThen (fun c l => Rd.ok (⟨29, 0, c % 64, false, [], []⟩ : Or) l) = _
  rw [nx_some h]
  rfl
theorem pairM_next {L : List Int} {kind : Int} {i l : Nat} {x : Int × Int} (h : pairM L kind i = .ok x l) : l = i + 2 := by
  obtain ⟨a, j, h1, h2⟩ := andThen_ok h
  obtain ⟨b, k, h3, h4⟩ := andThen_ok h2
  have e1 := (nx_ok h1).2.1
  have e2 := (nx_ok h3).2.1
  split at h4
  · injection h4 with _ e3; omega
  · cases h4
theorem pairsM_next {L : List Int} {kind : Int} : ∀ (n : Nat) {i l : Nat} {x : List (Int × Int)}, pairsM L kind n i = .ok x l → l = i + 2 * n
  | 0, i, l, x, h => by injection h with _ e; omega
  | n + 1, i, l, x, h => by
    obtain ⟨a, j, h1, h2⟩ := andThen_ok h
    obtain ⟨b, k, h3, h4⟩ := andThen_ok h2
    have e1 := pairM_next h1
    have e2 := pairsM_next n h3
    injection h4 with _ e3
    omega
theorem sa_ok {L : List Int} {i l : Nat} {ps : List (Int × Int)} (h : pairsM L 40 1 (i + 1) = .ok ps l) : ordK L 40 (i + 1) = .ok ⟨40, 0, 0, false, ps, []⟩ l := by
  show (pairsM L 40 1 (i + 1)).andThen _ = _
  rw [h]
  rfl
theorem sa_bad {L : List Int} {i : Nat} {f : Flt} (h : pairsM L 40 1 (i + 1) = .bad f) : ordK L 40 (i + 1) = .bad f := by
  show (pairsM L 40 1 (i + 1)).andThen _ = _
  rw [h]
  rfl
theorem sfe_ok {L : List Int} {k x : Int} {i l : Nat} {ps : List (Int × Int)} (hk : k = 41 ∨ k = 44) (hx : L[i + 1]? = some x) (h : pairsM L k x.toNat (i + 2) = .ok ps l) : ordK L k (i + 1) = .ok ⟨k, 0, 0, false, ps, []⟩ l := by
  rcases hk with rfl | rfl
  · show (nx L (i + 1)).andThen _ = _
    rw [nx_some hx]
    show (pairsM L 41 x.toNat (i + 2)).andThen _ = _
    rw [h]
    rfl
  · show (nx L (i + 1)).andThen _ = _
    rw [nx_some hx]
    show (pairsM L 44 x.toNat (i + 2)).andThen _ = _
    rw [h]
    rfl
theorem sfe_bad {L : List Int} {k x : Int} {i : Nat} {f : Flt} (hk : k = 41 ∨ k = 44) (hx : L[i + 1]? = some x) (h : pairsM L k x.toNat (i + 2) = .bad f) : ordK L k (i + 1) = .bad f := by
  rcases hk with rfl | rfl
  · show (nx L (i + 1)).andThen _ = _
    rw [nx_some hx]
    show (pairsM L 41 x.toNat (i + 2)).andThen _ = _
    rw [h]
    rfl
  · show (nx L (i + 1)).andThen _ = _
    rw [nx_some hx]
    show (pairsM L 44 x.toNat (i + 2)).andThen _ = _
    rw [h]
    rfl
theorem sfe_short {L : List Int} {k : Int} {i : Nat} (hk : k = 41 ∨ k = 44) (h : L.length ≤ i + 1) : ordK L k (i + 1) = .bad .short := by
  rcases hk with rfl | rfl
  · exact nx1_short h
  · exact nx1_short h
end Go.Proofs.YtjeknociobbhpaaDoor.Ord
