/-
  Records that are written are told as they are: plainly.
-/
import Derived.Test.YtkolhjglehnigaaRecD
import Derived.Test.YtkolhjglehnigaaCutPlain
namespace Go.Proofs.Ytkolhjglehnigaa.Rec
open Go.RowKit Base Iac
set_option linter.unusedVariables false

/-! ### Where data is cut is not seen -/
theorem take_merge (B X Y : List Int) (h : B.length ≤ 8192) : (B ++ X.take (8192 - B.length)) ++ Y.take (8192 - (B ++ X.take (8192 - B.length)).length) = B ++ (X ++ Y).take (8192 - B.length) := by
  rw [List.take_append, List.append_assoc, List.length_append, List.length_take]
  congr 3
  omega
theorem step_merge (S : St) (c o c' o' : Int) (X Y : List Int) (h : S.b.length ≤ 8192) : stepM (stepM S ⟨1, c, o, X⟩) ⟨1, c', o', Y⟩ = stepM S ⟨1, c, o, X ++ Y⟩ := by
  have e1 : ∀ (T : St) (c o : Int) (Z : List Int), stepM T ⟨1, c, o, Z⟩ = { T with b := T.b ++ Z.take (8192 - T.b.length), lg := T.lg || decide (8192 - T.b.length < Z.length) } := fun T c o Z => by unfold stepM; rw [if_pos rfl]
  rw [e1, e1, e1]
  simp only
  rw [take_merge _ _ _ h, Bool.or_assoc]
  congr 2
  rw [List.length_append, List.length_take, List.length_append, Bool.eq_iff_iff]
  simp only [Bool.or_eq_true, decide_eq_true_eq]
  omega
theorem step_none (S : St) (c o : Int) : stepM S ⟨1, c, o, []⟩ = S := by
  unfold stepM
  rw [if_pos rfl]
  cases S
  simp
theorem stepM_le (S : St) (e : Ev) (h : S.b.length ≤ 8192) : (stepM S e).b.length ≤ 8192 := by
  unfold stepM
  split
  · simp; omega
  · split
    · split <;> simp
    · exact h
theorem runM_le (L : List Ev) : (runM L).b.length ≤ 8192 := by
  have : ∀ (L : List Ev) (S : St), S.b.length ≤ 8192 → (L.foldl stepM S).b.length ≤ 8192 := by
    intro L
    induction L with
    | nil => intro S h; exact h
    | cons e L ih => intro S h; rw [List.foldl_cons]; exact ih _ (stepM_le S e h)
  exact this L _ (by simp)
theorem run_joinE (M : List Ev) (e : Ev) : runM (joinE M e) = stepM (runM M) e := by
  unfold joinE
  split
  · next h =>
    obtain ⟨k, c, o, b⟩ := e
    simp only at h
    obtain ⟨rfl, rfl⟩ := h
    exact (step_none _ _ _).symm
  · rcases List.eq_nil_or_concat M with rfl | ⟨Q, f, rfl⟩
    · rfl
    · rw [List.concat_eq_append]
      by_cases hf : f.kind = 1 ∧ e.kind = 1
      · rw [addL_data _ _ _ hf.1 hf.2, runM_snoc, runM_snoc]
        obtain ⟨k, c, o, b⟩ := e
        obtain ⟨k', c', o', b'⟩ := f
        simp only at hf
        obtain ⟨rfl, rfl⟩ := hf
        exact (step_merge _ _ _ _ _ _ _ (runM_le Q)).symm
      · rw [addL_other _ _ _ hf, runM_snoc]
theorem run_join (L : List Ev) : runM (joinL L) = runM L := by
  rw [← List.take_length (l := L)]
  generalize L.length = k
  induction k with
  | zero => rfl
  | succ k ih =>
    by_cases hk : k < L.length
    · rw [List.take_succ_eq_append_getElem hk, joinL_snoc, run_joinE, ih, runM_snoc]
    · rw [List.take_of_length_le (by omega)] at ih ⊢
      exact ih

/-! ### Records one behind the other -/
def recsL (R : List (List Int)) : List Int := R.flatMap fun r => escL r ++ [255, 239]
def recsE (R : List (List Int)) : List Ev := R.flatMap fun r => dataL r ++ [⟨2, 0, 0, []⟩]
theorem lay_behind (L : List Int) (Q : List Ev) (e : Ev) (h : e.kind ≠ 1) : L.foldl layL (Q ++ [e]) = Q ++ [e] ++ dataL L := by
  cases L with
  | nil => simp [dataL]
  | cons x L =>
    rw [List.foldl_cons, layL_other _ _ _ h]
    have := lay_data L [x] (Q ++ [e]) ⟨1, 0, 0, []⟩ rfl
    rw [this]
    simp [dataL]
theorem fold_recs : ∀ (R : List (List Int)) (Q : List Ev), (Q = [] ∨ ∃ P e, Q = P ++ [e] ∧ e.kind ≠ 1) → foldF (dec0, Q) (recsL R) = (dec0, Q ++ recsE R) := by
  intro R
  induction R with
  | nil => intro Q _; simp [recsL, recsE, foldF]
  | cons r R ih =>
    intro Q hQ
    have h1 : recsL (r :: R) = escL r ++ [255, 239] ++ recsL R := by simp [recsL]
    have h2 : recsE (r :: R) = dataL r ++ [⟨2, 0, 0, []⟩] ++ recsE R := by simp [recsE]
    have h3 : r.foldl layL Q = Q ++ dataL r := by
      rcases hQ with rfl | ⟨P, e, rfl, he⟩
      · rw [lay_nil]; rfl
      · exact lay_behind r P e he
    rw [h1, h2, foldF_append, foldF_append, fold_data dec0 rfl, fold_end dec0 _ rfl, ih _ (.inr ⟨r.foldl layL Q, _, rfl, by simp⟩), h3]
    simp
theorem feed_recs (R : List (List Int)) : feedD dec0 (recsL R) = (dec0, recsE R) := by
  rw [feedD_fold, fold_recs R [] (.inl rfl)]
  rfl
theorem run_recs (R : List (List Int)) (h : ∀ r ∈ R, r.length ≤ 8192) : runM (recsE R) = ⟨[], false, R, 0⟩ := by
  have : ∀ (R Q : List (List Int)), (∀ r ∈ R, r.length ≤ 8192) → (recsE R).foldl stepM ⟨[], false, Q, 0⟩ = ⟨[], false, Q ++ R, 0⟩ := by
    intro R
    induction R with
    | nil => intro Q _; simp [recsE]
    | cons r R ih =>
      intro Q h
      have hr := h r (by simp)
      have h2 : recsE (r :: R) = dataL r ++ [⟨2, 0, 0, []⟩] ++ recsE R := by simp [recsE]
      have hd : (dataL r).foldl stepM ⟨[], false, Q, 0⟩ = ⟨r, false, Q, 0⟩ := by
        unfold dataL
        split
        · next h0 => subst h0; rfl
        · rw [List.foldl_cons, List.foldl_nil]
          unfold stepM
          rw [if_pos rfl]
          simp only [List.nil_append, List.length_nil, Nat.sub_zero, Bool.false_or]
          rw [List.take_of_length_le hr, decide_eq_false (by omega)]
      rw [h2, List.foldl_append, List.foldl_append, hd, List.foldl_cons, List.foldl_nil]
      have he : stepM ⟨r, false, Q, 0⟩ ⟨2, 0, 0, []⟩ = ⟨[], false, Q ++ [r], 0⟩ := by unfold stepM; rw [if_neg (by simp), if_pos rfl, if_neg (by simp)]
      rw [he, ih _ fun x hx => h x (by simp [hx])]
      simp
  have := this R [] h
  simpa [runM] using this
theorem ends_recs (R : List (List Int)) : endsB (recsE R) = true := by
  rcases List.eq_nil_or_concat R with rfl | ⟨Q, r, rfl⟩
  · rfl
  · have : recsE (Q.concat r) = (recsE Q ++ dataL r) ++ [⟨2, 0, 0, []⟩] := by rw [List.concat_eq_append]; simp [recsE]
    rw [this]
    simp [endsB]
theorem split_recs (R : List (List Int)) : splitOk (recsL R) = true := by
  unfold splitOk
  rw [feed_recs, ends_recs]
  rfl
/-- .. in whatever parts they come. -/
theorem run_parts {D : Dec} {J : List Ev} (R : List (List Int)) (h : PartsOk D J (recsL R)) (hl : ∀ r ∈ R, r.length ≤ 8192) : runM J = ⟨[], false, R, 0⟩ := by
  rw [← run_join J, h.2, feed_recs, run_join, run_recs R hl]
theorem recsL_len (R : List (List Int)) (m : Nat) (h : ∀ r ∈ R, r.length ≤ m) : (recsL R).length ≤ (2 * m + 2) * R.length := by
  induction R with
  | nil => simp [recsL]
  | cons r R ih =>
    have h1 : recsL (r :: R) = escL r ++ [255, 239] ++ recsL R := by simp [recsL]
    have h2 := escL_le r
    have h3 := h r (by simp)
    have h4 := ih fun x hx => h x (by simp [hx])
    have h5 : ([255, 239] : List Int).length = 2 := rfl
    have h6 : (r :: R).length = R.length + 1 := rfl
    rw [h1, List.length_append, List.length_append, h5, h6, Nat.mul_add]
    omega
end Go.Proofs.Ytkolhjglehnigaa.Rec
