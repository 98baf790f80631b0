/-
  A clock beside a map of its alarms: what the walk of ClockSets needs.
-/
import Derived.Test.YtndhhpiklaffoaaClockPartsA
import Derived.Maps.OwnOps
import Derived.Maps.OwnSet
namespace Go.Proofs.Ytndhhpiklaffoaa.Clock
open Go.RowKit Go.Maps
open Mail (Turn ret_int ret_bool sameInts_any RowOf ownsRow_base info_int)
set_option linter.unusedVariables false

theorem dropL_len (L : List (Int × Int)) (id : Int) (hu : L.Pairwise fun p q => p.2 ≠ q.2) : (dropL L id).length + (if has L id then 1 else 0) = L.length := by
  cases hh : has L id with
  | true =>
    rw [← dropL_at hu hh]
    have hlt : fi L id < L.length := by simpa [has] using hh
    simp
    omega
  | false => rw [dropL_none hh]; simp
theorem has_insL (L : List (Int × Int)) (id t id' : Int) : has (insL (dropL L id) (t, id)) id' = if id' = id then true else has L id' := by
  by_cases h : id' = id
  · rw [if_pos h, has_iff]
    exact ⟨(t, id), mem_insL.2 (.inl rfl), h.symm⟩
  · rw [if_neg h, Bool.eq_iff_iff, has_iff, has_iff]
    constructor
    · rintro ⟨q, hq, he⟩
      rcases mem_insL.1 hq with rfl | hq
      · exact absurd he.symm h
      · exact ⟨q, (List.mem_filter.1 hq).1, he⟩
    · rintro ⟨q, hq, he⟩
      exact ⟨q, mem_insL.2 (.inr (List.mem_filter.2 ⟨hq, by simp [he, h]⟩)), he⟩
theorem has_dropL (L : List (Int × Int)) (id id' : Int) : has (dropL L id) id' = if id' = id then false else has L id' := by
  by_cases h : id' = id
  · rw [if_pos h, ← Bool.not_eq_true, has_iff]
    rintro ⟨q, hq, he⟩
    exact dropL_id q hq (he.trans h)
  · rw [if_neg h, Bool.eq_iff_iff, has_iff, has_iff]
    constructor
    · rintro ⟨q, hq, he⟩
      exact ⟨q, (List.mem_filter.1 hq).1, he⟩
    · rintro ⟨q, hq, he⟩
      exact ⟨q, List.mem_filter.2 ⟨hq, by simp [he, h]⟩, he⟩
/-- A map's datum holds the alarms: the number, and its time. -/
structure MapIs (D : DataW Unit) (L : List (Int × Int)) : Prop where
  sz : Maps.size D = L.length
  hs : ∀ id, Maps.has D (.int .i64 id) = has L id
  at_ : ∀ q ∈ L, D.atKey (.int .i64 q.2) (.lit (.int .i64 0)) = .lit (.int .i64 q.1)
theorem mapIs_nil : MapIs (.map []) [] := ⟨rfl, fun id => rfl, by simp⟩
theorem lit_ne {a b : Int} (h : a ≠ b) : (Lit.int .i64 a) ≠ .int .i64 b := fun e => h (Lit.int.inj e).2
theorem MapIs.put {D : DataW Unit} {L : List (Int × Int)} (h : MapIs D L) (ht : Tidy D) (hu : L.Pairwise fun p q => p.2 ≠ q.2) (id t : Int) : MapIs (D.put (.int .i64 id) (.lit (.int .i64 t))) (insL (dropL L id) (t, id)) := by
  refine ⟨?_, fun id' => ?_, fun q hq => ?_⟩
  · have := dropL_len L id hu
    rw [size_put ht, h.hs, h.sz, insL_length]
    split <;> simp_all <;> omega
  · rw [has_insL]
    by_cases he : id' = id
    · subst he
      rw [if_pos rfl]
      exact has_put_same (k := .int .i64 id') ht.isMap trivial _
    · rw [if_neg he, has_put_other (lit_ne he), h.hs]
  · rcases mem_insL.1 hq with rfl | hq
    · exact atKey_put_same (k := .int .i64 id) ht.isMap trivial _ _
    · rw [atKey_put_other (lit_ne (dropL_id q hq))]
      exact h.at_ q (List.mem_filter.1 hq).1
theorem MapIs.del {D : DataW Unit} {L : List (Int × Int)} (h : MapIs D L) (ht : Tidy D) (hu : L.Pairwise fun p q => p.2 ≠ q.2) (id : Int) : MapIs (D.del (.int .i64 id)) (dropL L id) := by
  refine ⟨?_, fun id' => ?_, fun q hq => ?_⟩
  · have h1 := dropL_len L id hu
    have h2 := size_del (k := .int .i64 id) ht
    rw [h.hs, h.sz] at h2
    split at h1 <;> simp_all <;> omega
  · rw [has_dropL]
    by_cases he : id' = id
    · subst he
      rw [if_pos rfl]
      exact has_del_same
    · rw [if_neg he, has_del_other (lit_ne he), h.hs]
  · rw [atKey_del_other (lit_ne (dropL_id q hq))]
    exact h.at_ q (List.mem_filter.1 hq).1
theorem dropL_drop {L : List (Int × Int)} (hu : L.Pairwise fun p q => p.2 ≠ q.2) {j : Nat} (hj : j < L.length) : dropL (L.drop j) (L[j]).2 = L.drop (j + 1) := by
  rw [List.drop_eq_getElem_cons hj]
  have hu' : (L[j] :: L.drop (j + 1)).Pairwise fun p q => p.2 ≠ q.2 := by rw [← List.drop_eq_getElem_cons hj]; exact hu.drop
  rw [List.pairwise_cons] at hu'
  unfold dropL
  rw [List.filter_cons_of_neg (by simp), List.filter_eq_self]
  intro q hq
  have := hu'.1 q hq
  simp; omega

/-! ### A clock, and the map in the next block -/
abbrev OwnM (W : World) (b n : Nat) (D : DataW Unit) : Prop := W.ownsMap Try.prog 3 (plainElem (H := Unit) Try.prog 2) b n D
section
variable {s : Nat} {w W W' : World} {now : Int} {L : List (Int × Int)}
theorem turn_of_grown {b : Nat} (hg : W.grownBy W' (some b)) : Turn (At b) W W' :=
  ⟨hg.os, hg.tape, hg.output, hg.size, fun i hi hne => hg.block i hi (fun e => hne (by cases e; rfl))⟩
theorem grown_of_turn {b : Nat} (u : Turn (At b) W W') : W.grownBy W' (some b) :=
  ⟨u.os, u.tape, u.output, u.size, fun i hi hne => u.block i hi (fun e => hne (by rw [show i = b from e]))⟩
theorem OwnM.turn {b n : Nat} {D : DataW Unit} (h : OwnM W b n D) {c : Nat} (u : Turn (At c) W W') (hne : b ≠ c) : OwnM W' b n D := World.ownsMap.kept h (grown_of_turn u) (fun e => hne (by cases e; rfl))
theorem OwnM.tidy {b n : Nat} {D : DataW Unit} (h : OwnM W b n D) : Tidy D := World.ownsMap.tidy h (int_keyed Try.underlying3)
theorem One.other (h : One s w W now L) (u : Turn (At (s + 1)) W W') : One s w W' now L :=
  ⟨h.clock.keep (u.block s h.lt (by unfold At; omega)), h.wf, h.old.trans (u.below (by have := h.lt; omega) (by unfold At; omega))⟩
/-- An alarm set at time 0, with room. -/
theorem set_free (id t : Int) (h : One s w W 0 L) (hl : L.length < 64) (h0 : 0 ≤ t) (h1 : t ≤ 255) :
    Calls Try.prog 27 #[.pointer (some ⟨s, 0, none⟩), .int .i64 id, .int .i64 t] W fun e W' => ∃ x, e = .returned (.int .i64 x) ∧ One s w W' 0 (insL (dropL L id) (t, id)) ∧ Turn (At s) W W' := by
  have hp : putA 0 L id t = insL (dropL L id) (t, id) := by
    unfold putA
    rw [if_neg (by omega), if_neg (by rintro ⟨_, h⟩; omega), show lateI 0 t = t by unfold lateI; omega]
  exact (set_one id t _ _ h rfl hp).mono fun e W' ⟨he, o, u⟩ => ⟨_, he, o, u⟩
theorem go_two (t now' : Int) (h : One s w W now L) (hs : s + 2 ≤ W.heap.size) (h1 : stepI now t = now') :
    Calls Try.prog 32 #[.pointer (some ⟨s, 0, none⟩), .int .i64 t] W fun e W' => ∃ v, e = .returned v ∧ Rung2 s W' v (rungL now' L) ∧ One s w W' now' (restL now' L) ∧ Turn (At s) W W' := by
  subst h1
  refine (go_any t W h.clock h.wf).mono ?_
  rintro e W' ⟨v, rfl, r, c, u⟩
  have := stepI_bd h.wf t
  exact ⟨v, rfl, ownsRow_base r hs, h.turn c (h.wf.go (by have := h.wf.n0; omega) this.2) u, u⟩
end
theorem set_length {L : List (Int × Int)} (id t : Int) : (insL (dropL L id) (t, id)).length ≤ L.length + 1 := by
  rw [insL_length]
  have : (dropL L id).length ≤ L.length := List.length_filter_le _ _
  omega
theorem set_bd {L : List (Int × Int)} {id t : Int} (h : ∀ q ∈ L, q.1 ≤ 255 ∧ 0 ≤ q.2 ∧ q.2 ≤ 60) (ht : t ≤ 255) (h0 : 0 ≤ id) (h1 : id ≤ 60) : ∀ q ∈ insL (dropL L id) (t, id), q.1 ≤ 255 ∧ 0 ≤ q.2 ∧ q.2 ≤ 60 := by
  intro q hq
  rcases mem_insL.1 hq with rfl | hq
  · exact ⟨ht, h0, h1⟩
  · exact h q (List.mem_filter.1 hq).1
theorem mem_drop_get {L : List (Int × Int)} {j : Nat} (hj : j < L.length) : L[j] ∈ L.drop j := by
  rw [List.drop_eq_getElem_cons hj]; exact List.mem_cons_self
theorem has_drop {L : List (Int × Int)} {j : Nat} (hj : j < L.length) : has (L.drop j) (L[j]).2 = true := has_iff.2 ⟨L[j], mem_drop_get hj, rfl⟩
theorem rung_take {L : List (Int × Int)} {t : Int} : rungL t L = (L.take (rungL t L).length).map (·.2) ∧ restL t L = L.drop (rungL t L).length ∧ (rungL t L).length ≤ L.length := by
  have hl := rung_length t L
  have e : L.takeWhile (fun p => decide (p.1 ≤ t)) ++ L.dropWhile (fun p => decide (p.1 ≤ t)) = L := List.takeWhile_append_dropWhile
  have el : (rungL t L).length = (L.takeWhile fun p => decide (p.1 ≤ t)).length := by unfold rungL; simp
  refine ⟨?_, ?_, by omega⟩
  · rw [el]
    conv => rhs; rw [← e]
    rw [List.take_left' (by rw [e])]
    rfl
  · rw [el]
    conv => rhs; rw [← e]
    rw [List.drop_left' (by rw [e])]
    rfl
end Go.Proofs.Ytndhhpiklaffoaa.Clock
