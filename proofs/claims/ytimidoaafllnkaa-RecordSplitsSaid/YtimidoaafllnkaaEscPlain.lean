/-
  What the bytes of escaped data, of a record and of a subnegotiation are, plainly.
-/
import Derived.Test.YtimidoaafllnkaaJoinA
namespace Go.Proofs.Ytimidoaafllnkaa.Iac
open Go.RowKit Base
set_option linter.unusedVariables false

def foldF (r : Dec × List Ev) (L : List Int) : Dec × List Ev := L.foldl (fun r x => takeD r.1 r.2 x) r
theorem foldF_append (r : Dec × List Ev) (A B : List Int) : foldF r (A ++ B) = foldF (foldF r A) B := by simp [foldF]
theorem foldF_cons (r : Dec × List Ev) (x : Int) (L : List Int) : foldF r (x :: L) = foldF (takeD r.1 r.2 x) L := rfl
theorem feedD_fold (D : Dec) (L : List Int) : feedD D L = foldF (D, []) L := rfl
theorem escL_cons (x : Int) (L : List Int) : escL (x :: L) = (if x = 255 then [255, 255] else [x]) ++ escL L := by simp [escL]
theorem take0 (D : Dec) (J : List Ev) (x : Int) (h : D.state = 0) (hx : x ≠ 255) : takeD D J x = (D, layL J x) := by unfold takeD; rw [h]; simp [hx]
theorem take0m (D : Dec) (J : List Ev) (h : D.state = 0) : takeD D J 255 = ({ D with state := 1 }, J) := by unfold takeD; rw [h]; rfl
theorem take1 (D : Dec) (J : List Ev) (x : Int) (h : D.state = 1) : takeD D J x = commandD D J x := by unfold takeD; rw [if_pos h]
theorem take3 (D : Dec) (J : List Ev) (x : Int) (h : D.state = 3) (hx : x ≠ 255) : takeD D J x = (keepD D x, J) := by unfold takeD; rw [h]; simp [hx]
theorem take3m (D : Dec) (J : List Ev) (h : D.state = 3) : takeD D J 255 = ({ D with state := 4 }, J) := by unfold takeD; rw [h]; rfl
theorem take4 (D : Dec) (J : List Ev) (x : Int) (h : D.state = 4) : takeD D J x = markedD D J x := by unfold takeD; rw [h]; rfl
theorem dec_state (D : Dec) (n : Nat) (h : D.state = n) : { D with state := n } = D := by cases D; simp at h; simp [h]
/-- Escaped data, outside. -/
theorem fold_data (D : Dec) (h : D.state = 0) : ∀ (L : List Int) (J : List Ev), foldF (D, J) (escL L) = (D, L.foldl layL J) := by
  intro L
  induction L with
  | nil => intro J; rfl
  | cons x L ih =>
    intro J
    rw [escL_cons, foldF_append, List.foldl_cons]
    by_cases hx : x = 255
    · subst hx
      have : foldF (D, J) [255, 255] = (D, layL J 255) := by
        show takeD (takeD D J 255).1 (takeD D J 255).2 255 = _
        rw [take0m D J h]
        show takeD { D with state := 1 } J 255 = _
        rw [take1 _ _ _ rfl]
        show ({ D with state := 0 }, layL J 255) = _
        rw [dec_state D 0 h]
      rw [if_pos rfl, this, ih]
    · have : foldF (D, J) [x] = (D, layL J x) := take0 D J x h hx
      rw [if_neg hx, this, ih]
theorem lay_data (L X : List Int) (Q : List Ev) (e : Ev) (he : e.kind = 1) : L.foldl layL (Q ++ [{ e with bytes := X }]) = Q ++ [{ e with bytes := X ++ L }] := by
  induction L generalizing X with
  | nil => simp
  | cons x L ih =>
    rw [List.foldl_cons, layL_data Q { e with bytes := X } x he]
    have := ih (X ++ [x])
    rw [show X ++ x :: L = X ++ [x] ++ L by simp]
    exact this
/-- Data alone. -/
def dataL (L : List Int) : List Ev := if L = [] then [] else [⟨1, 0, 0, L⟩]
theorem lay_nil (L : List Int) : L.foldl layL [] = dataL L := by
  cases L with
  | nil => rfl
  | cons x L =>
    rw [List.foldl_cons]
    have := lay_data L [x] [] ⟨1, 0, 0, [x]⟩ rfl
    simp only [List.nil_append] at this
    show L.foldl layL [⟨1, 0, 0, [x]⟩] = _
    rw [this]
    simp [dataL]
/-- Escaped bytes within a subnegotiation. -/
theorem fold_sub : ∀ (L : List Int) (D : Dec) (J : List Ev), D.state = 3 → foldF (D, J) (escL L) = (L.foldl keepD D, J) := by
  intro L
  induction L with
  | nil => intro D J h; rfl
  | cons x L ih =>
    intro D J h
    rw [escL_cons, foldF_append, List.foldl_cons]
    have hk : ∀ y, (keepD D y).state = 3 := fun y => by
      unfold keepD
      split
      · exact h
      · split <;> exact h
    by_cases hx : x = 255
    · subst hx
      have : foldF (D, J) [255, 255] = (keepD D 255, J) := by
        show takeD (takeD D J 255).1 (takeD D J 255).2 255 = _
        rw [take3m D J h]
        show takeD { D with state := 4 } J 255 = _
        rw [take4 _ _ _ rfl]
        show (keepD { D with state := 3 } 255, J) = _
        rw [dec_state D 3 h]
      rw [if_pos rfl, this, ih _ _ (hk 255)]
    · have : foldF (D, J) [x] = (keepD D x, J) := take3 D J x h hx
      rw [if_neg hx, this, ih _ _ (hk x)]
theorem keep_named (st : Nat) (vb o : Int) : ∀ (L B : List Int) (lg : Bool), B.length ≤ 256 → L.foldl keepD ⟨st, vb, true, o, B, lg⟩ = ⟨st, vb, true, o, (B ++ L).take 256, lg || decide (256 < B.length + L.length)⟩ := by
  intro L
  induction L with
  | nil => intro B lg h; simp [List.take_of_length_le h]; omega
  | cons x L ih =>
    intro B lg h
    rw [List.foldl_cons]
    by_cases hb : B.length < 256
    · rw [show keepD ⟨st, vb, true, o, B, lg⟩ x = ⟨st, vb, true, o, B ++ [x], lg⟩ by unfold keepD; rw [if_neg (by simp), if_pos hb], ih _ _ (by simp; omega)]
      rw [show B ++ [x] ++ L = B ++ x :: L by simp, show (B ++ [x]).length + L.length = B.length + (x :: L).length by simp; omega]
    · rw [show keepD ⟨st, vb, true, o, B, lg⟩ x = ⟨st, vb, true, o, B, true⟩ by unfold keepD; rw [if_neg (by simp), if_neg hb], ih _ _ h]
      have hB : B.length = 256 := by omega
      rw [List.take_append_of_le_length (by omega), List.take_append_of_le_length (by omega)]
      simp; omega
/-- A subnegotiation's event. -/
def subE (o : Int) (L : List Int) : Ev := ⟨if 256 < L.length then 6 else 5, 0, o, L.take 256⟩
theorem foldF_two (r : Dec × List Ev) (x y : Int) : foldF r [x, y] = takeD (takeD r.1 r.2 x).1 (takeD r.1 r.2 x).2 y := rfl
theorem fold_tell (D : Dec) (J : List Ev) (o : Int) (L : List Int) (h : D.state = 0) : foldF (D, J) (tellL o L) = (⟨0, D.verb, true, o, L.take 256, decide (256 < L.length)⟩, J ++ [subE o L]) := by
  unfold tellL
  rw [foldF_append, foldF_append, foldF_append]
  have h1 : foldF (D, J) [255, 250] = (⟨3, D.verb, false, 0, [], false⟩, J) := by
    rw [foldF_two, take0m D J h]
    show takeD { D with state := 1 } J 250 = _
    rw [take1 _ _ _ rfl]
    rfl
  rw [h1, fold_sub [o] _ _ rfl]
  rw [fold_sub L _ _ rfl]
  · rw [show [o].foldl keepD ⟨3, D.verb, false, 0, [], false⟩ = ⟨3, D.verb, true, o, [], false⟩ from rfl, keep_named _ _ _ _ _ _ (by simp)]
    simp only [List.nil_append, Bool.false_or, List.length_nil, Nat.zero_add]
    rw [foldF_two, take3m _ _ rfl]
    show takeD ⟨4, D.verb, true, o, L.take 256, decide (256 < L.length)⟩ J 240 = _
    rw [take4 _ _ _ rfl]
    show ((⟨0, D.verb, true, o, L.take 256, decide (256 < L.length)⟩ : Dec), J ++ [eventE ⟨4, D.verb, true, o, L.take 256, decide (256 < L.length)⟩]) = _
    have : eventE ⟨4, D.verb, true, o, L.take 256, decide (256 < L.length)⟩ = subE o L := by
      unfold eventE subE
      rw [if_neg (by simp)]
      simp
    rw [this]
theorem fold_end (D : Dec) (J : List Ev) (h : D.state = 0) : foldF (D, J) [255, 239] = (D, J ++ [⟨2, 0, 0, []⟩]) := by
  rw [foldF_two, take0m D J h]
  show takeD { D with state := 1 } J 239 = _
  rw [take1 _ _ _ rfl]
  show ({ D with state := 0 }, J ++ [⟨2, 0, 0, []⟩]) = _
  rw [dec_state D 0 h]
theorem feed_esc (L : List Int) : feedD dec0 (escL L) = (dec0, dataL L) := by rw [feedD_fold, fold_data dec0 rfl, lay_nil]
theorem feed_record (L : List Int) : feedD dec0 (escL L ++ [255, 239]) = (dec0, dataL L ++ [⟨2, 0, 0, []⟩]) := by rw [feedD_fold, foldF_append, fold_data dec0 rfl, lay_nil, fold_end dec0 _ rfl]
theorem feed_tell (o : Int) (L : List Int) : feedD dec0 (tellL o L) = (⟨0, 0, true, o, L.take 256, decide (256 < L.length)⟩, [subE o L]) := by rw [feedD_fold, fold_tell dec0 _ _ _ rfl]; rfl
end Go.Proofs.Ytimidoaafllnkaa.Iac
