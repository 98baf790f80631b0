/-
  Fields one behind the other, plainly; a row of fields behind another.
-/
import Derived.Test.YtmmgebiojpnhcaaDoorCmdS
namespace Go.Proofs.YtmmgebiojpnhcaaDoor.Cmd
open Go.RowKit Base Go.Proofs.YtmmgebiojpnhcaaDoor.Ord
set_option linter.unusedVariables false
set_option linter.unusedSimpArgs false

theorem fieldsM_fuel : ∀ (f g : Nat) (L : List Int), L.length < f → L.length < g → fieldsM f L = fieldsM g L
  | 0, _, _, h, _ => by omega
  | _, 0, _, _, h => by omega
  | f + 1, g + 1, L, hf, hg => by
    unfold fieldsM
    by_cases hL : L = []
    · rw [if_pos hL, if_pos hL]
    · rw [if_neg hL, if_neg hL]
      cases hc : cutM L with
      | none => rfl
      | some p =>
        obtain ⟨A, B⟩ := p
        have hb := (cutM_some hc).2.2.1
        simp only at hb ⊢
        rw [fieldsM_fuel f g B (by omega) (by omega)]
def FM (L : List Int) : List Fl × Int := fieldsM (L.length + 1) L
theorem FM_nil : FM [] = ([], 0) := rfl
theorem cut_one (b rest : List Int) (hb : b ≠ []) (hl : b.length ≤ 100) : cutM ([0, (b.length : Int) + 2] ++ b ++ rest) = some (b, rest) := by
  have hpos : 0 < b.length := List.length_pos_iff.2 hb
  have h0 : nthL ([0, (b.length : Int) + 2] ++ b ++ rest) 0 = 0 := rfl
  have h1 : nthL ([0, (b.length : Int) + 2] ++ b ++ rest) 1 = (b.length : Int) + 2 := rfl
  have hm : manyM ([0, (b.length : Int) + 2] ++ b ++ rest) = b.length + 2 := by
    unfold manyM
    rw [h0, h1, if_neg (by omega)]
    omega
  unfold cutM
  rw [if_neg (by simp), hm, if_neg (by simp; omega)]
  congr 1
  refine Prod.ext ?_ ?_
  · show ((([0, (b.length : Int) + 2] ++ b ++ rest).take (b.length + 2)).drop 2) = b
    simp
  · show ([0, (b.length : Int) + 2] ++ b ++ rest).drop (b.length + 2) = rest
    simp
theorem cut_zero (rest : List Int) : cutM ([0, 2] ++ rest) = none := by
  have hm : manyM ([0, 2] ++ rest) = 2 := rfl
  unfold cutM
  rw [if_neg (by simp), hm, if_pos (by omega)]
theorem FM_cons (b rest : List Int) (hb : b ≠ []) (hl : b.length ≤ 100) : FM ([0, (b.length : Int) + 2] ++ b ++ rest) = match fieldM b with | none => ([], 34) | some f => (f :: (FM rest).1, (FM rest).2) := by
  unfold FM
  rw [show ([0, (b.length : Int) + 2] ++ b ++ rest).length + 1 = (b.length + rest.length + 2) + 1 by simp only [List.length_append, List.length_cons, List.length_nil]; omega]
  rw [fieldsM]
  rw [if_neg (by simp), cut_one b rest hb hl]
  simp only
  cases fieldM b with
  | none => rfl
  | some f => simp only; rw [fieldsM_fuel (b.length + rest.length + 2) (rest.length + 1) rest (by omega) (by omega)]
theorem FM_zero (rest : List Int) : FM ([0, 2] ++ rest) = ([], 34) := by
  unfold FM
  rw [fieldsM, if_neg (by simp), cut_zero]
/-- A field's bytes. -/
def oneL (b : List Int) : List Int := [0, (b.length : Int) + 2] ++ b
theorem FM_one (b rest : List Int) (hl : b.length ≤ 100) : (∃ f, FM (oneL b) = ([f], 0) ∧ FM (oneL b ++ rest) = (f :: (FM rest).1, (FM rest).2)) ∨ (FM (oneL b) = ([], 34) ∧ FM (oneL b ++ rest) = ([], 34)) := by
  unfold oneL
  by_cases hb : b = []
  · subst hb
    exact .inr ⟨by have := FM_zero []; simpa using this, by have := FM_zero rest; simpa using this⟩
  · have h1 := FM_cons b [] hb hl
    have h2 := FM_cons b rest hb hl
    rw [List.append_nil] at h1
    cases hf : fieldM b with
    | none => rw [hf] at h1 h2; exact .inr ⟨h1, h2⟩
    | some f => rw [hf] at h1 h2; exact .inl ⟨f, by rw [h1]; simp [FM_nil], h2⟩
/-- All bytes so far, the fields that are told, and the error. -/
def GM (A : List Int) (W : List Fl) (E : Int) : Prop := (E = 0 → ∀ rest, FM (A ++ rest) = (W ++ (FM rest).1, (FM rest).2)) ∧ (E ≠ 0 → ∀ rest, FM (A ++ rest) = (W, E))
theorem GM.nil : GM [] [] 0 := ⟨fun _ rest => by simp, fun h => absurd rfl h⟩
theorem GM.go {A : List Int} {W : List Fl} (h : GM A W 0) (b : List Int) (hl : b.length ≤ 100) : GM (A ++ oneL b) (W ++ (FM (oneL b)).1) (FM (oneL b)).2 := by
  refine ⟨fun hE rest => ?_, fun hE rest => ?_⟩
  · rw [List.append_assoc, h.1 rfl]
    rcases FM_one b rest hl with ⟨f, h1, h2⟩ | ⟨h1, h2⟩
    · rw [h1, h2]; simp
    · rw [h1] at hE; cases hE
  · rw [List.append_assoc, h.1 rfl]
    rcases FM_one b rest hl with ⟨f, h1, h2⟩ | ⟨h1, h2⟩
    · rw [h1] at hE; exact absurd rfl hE
    · rw [h1, h2]
theorem GM.stay {A : List Int} {W : List Fl} {E : Int} (h : GM A W E) (hE : E ≠ 0) (b : List Int) : GM (A ++ oneL b) W E :=
  ⟨fun h0 => absurd h0 hE, fun _ rest => by rw [List.append_assoc]; exact h.2 hE _⟩
theorem GM.all {A : List Int} {W : List Fl} {E : Int} (h : GM A W E) : FM A = (W, E) := by
  by_cases hE : E = 0
  · have := h.1 hE []
    rw [List.append_nil, FM_nil] at this
    rw [this, hE]; simp
  · have := h.2 hE []
    rwa [List.append_nil] at this
theorem FM_one_le (b : List Int) (hl : b.length ≤ 100) : (FM (oneL b)).1.length ≤ 1 := by
  rcases FM_one b [] hl with ⟨f, h1, _⟩ | ⟨h1, _⟩ <;> rw [h1] <;> simp
theorem cmd_wsf (A : List Int) : cmdM ([243] ++ A) = (⟨243, 0, [], (FM A).2, (FM A).1⟩, 0) := by
  unfold cmdM
  rw [if_pos ⟨by simp, by rfl⟩]
  rfl
theorem flC_len (P : List FlP) : (flC P).length = P.length * 7 := by
  induction P with
  | nil => rfl
  | cons p P ih =>
    show ([_, _, _, _, _, _, _] ++ flC P).length = _
    rw [List.length_append, ih]
    simp
    omega
theorem flC_one {P : List FlP} (h : ∀ p ∈ P, ∃ a n c, p.2.1 = .slice a n c) : ∀ u ∈ flC P, u.oneCell' = true := by
  intro u hu
  obtain ⟨p, hp, hu⟩ := List.mem_flatMap.1 hu
  obtain ⟨a, n, c, e1⟩ := h p hp
  rw [flA, e1] at hu
  simp at hu
  rcases hu with rfl | rfl | rfl | rfl | rfl | rfl | rfl <;> rfl
/-- More fields behind. -/
theorem FlsOwn.more {s : Nat} {w w1 : World} {v v' u : Value} {Q R : List FlP} (h : FlsOwn s w v Q) (k : FlsOwn s w u R) (hown : w1.ownsRow s 39 7 v' (Q.length + R.length) (flC Q ++ flC R)) (hg : w.grownBy w1 v.ownBlock) : FlsOwn s w1 v' (Q ++ R) := by
  have key : ∀ {e : TypeId} {k n : Nat} {u : Value} {xs : List Value}, e ≠ 39 → w.ownsRow s e k u n xs → w1.ownsRow s e k u n xs := fun {e k n u xs} he hq => by
    refine own_keep hq fun g hqg _ hl => ?_
    exact hg.block g hl fun ee => fl_ne he h.row hq g ee.symm hqg
  have ko : ∀ {u : Value} {R : List OrdP}, OrdsOwn s w u R → OrdsOwn s w1 u R := fun {u R} hq =>
    ⟨key (by decide) hq.row, fun p hp => ⟨key (by decide) (hq.own p hp).1, key (by decide) (hq.own p hp).2⟩⟩
  refine ⟨by rw [List.length_append, flC_append]; exact hown, fun p hpm => ?_⟩
  rcases List.mem_append.1 hpm with hpm | hpm
  · exact ⟨ko (h.own p hpm).1, (h.own p hpm).2⟩
  · exact ⟨ko (k.own p hpm).1, (k.own p hpm).2⟩
section
variable {ops : Array Oper} {rest : List Oper} {o : Oper} {a : Act} {w : World} {Q : Exit → Act → World → Prop}
theorem wp_append_fls {K : Act → World → Prop} (s x : Operand) (ho : o.op = .call { callee := .builtin .append, args := #[s, x], argTypes := #[26, 26] })
    {base n : Nat} {v u : Value} {X : List Value} {P : List FlP} (hown : w.ownsRow base 39 7 v n X) (hr : FlsOwn base w u P) (hs : a.eval s = v) (hx : a.eval x = u)
    (hm : n + P.length ≤ 100000) (hb : base ≤ w.heap.size)
    (h : ∀ v' w', w'.ownsRow base 39 7 v' (n + P.length) (X ++ flC P) → w.grownBy w' v.ownBlock → K (a.put o.dst v') w') : o.wp Tryd.prog a w K Q := by
  obtain ⟨i0, hi, hz0, hz1, hz2⟩ := info_parts info_fls
  rcases hr.row.2 with ⟨rfl, h0⟩ | ⟨g, cap, cur, rfl, _⟩
  · have hP : P = [] := List.eq_nil_of_length_eq_zero h0
    subst hP
    have hrun := run_append_owned_none (P := Tryd.prog) (w := w) base 26 o.type 39 i0 7 Tryd.underlying26 hi v n _ hown
    unfold Oper.wp
    simp [execOp, ho, resolve, invoke, builtin, hs, hx, hrun, Result.andThen]
    exact h v w (by simpa [flC] using hown) ⟨rfl, rfl, rfl, Nat.le_refl _, fun _ _ _ => rfl⟩
  · refine wp_append_own _ s x 26 ho base 39 i0 (.agg #[.int .u8 0, .int .u8 0, .int .u8 0, .int .u8 0, .slice none 0 0, .int .i64 0, .slice none 0 0]) 7 72 Tryd.underlying26 hi hz0 hz1 hz2 rfl (by decide) v n X hs hown ⟨g, 0, none⟩ P.length cap (flC P) hx (flC_len P) (fun j u hu => World.ownsRow.cells hr.row (g := g) rfl j _ hu) (flC_one fun p hp => ?_) (by unfold maxLen; omega) (by omega) hb ?_
    · obtain ⟨a1, c1, e1⟩ := (hr.own p hp).1.form
      exact ⟨_, _, _, e1⟩
    · intro v' w' hown' hgrow _
      exact h v' w' hown' hgrow
theorem append_fls (hw : Region.wanted o (yielded ops a.tmps) = true) (s x : Operand) (ho : o.op = .call { callee := .builtin .append, args := #[s, x], argTypes := #[26, 26] })
    {base n : Nat} {v u : Value} {X : List Value} {P : List FlP} (hown : w.ownsRow base 39 7 v n X) (hr : FlsOwn base w u P) (hs : a.eval s = v) (hx : a.eval x = u)
    (hm : n + P.length ≤ 100000) (hb : base ≤ w.heap.size)
    (h : ∀ v' w', w'.ownsRow base 39 7 v' (n + P.length) (X ++ flC P) → w.grownBy w' v.ownBlock → wpList Tryd.prog ops Q rest (a.put o.dst v') w') : wpList Tryd.prog ops Q (o :: rest) a w := by
  refine wpList_step fun K hK => ?_
  rw [if_pos hw]
  exact wp_append_fls s x ho hown hr hs hx hm hb fun v' w' h1 h2 => hK _ _ (h v' w' h1 h2)
end
end Go.Proofs.YtmmgebiojpnhcaaDoor.Cmd
