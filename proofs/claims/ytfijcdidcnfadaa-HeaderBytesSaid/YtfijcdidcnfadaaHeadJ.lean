/-
  Headers: the contracts in one form, the program's and the reference's.
-/
import Derived.Test.YtfijcdidcnfadaaHeadI
import Derived.Test.YtfijcdidcnfadaaHeadE
import Derived.Test.YtfijcdidcnfadaaHeaderBackWalk
namespace Go.Proofs.Ytfijcdidcnfadaa.Head
open Go.RowKit Base Iac
set_option linter.unusedVariables false

def prs (L : List Int) : Hd × List Int × Int := if L.length < 5 then (hd0, [], 20) else if (8 : Int) < L[0]?.getD 0 then (hd0, [], 21) else (headOf L, L.drop 5, 0)
theorem row_nil (w : World) : RowOf .u8 w (.slice none 0 0) [] := ⟨none, 0, rfl, fun h => absurd rfl h⟩
theorem headOf_ok (L : List Int) (hby : ∀ x ∈ L, 0 ≤ x ∧ x < 256) : (headOf L).Ok := by
  have bd : ∀ i : Nat, 0 ≤ L[i]?.getD 0 ∧ L[i]?.getD 0 ≤ 255 := fun i => by
    rcases Nat.lt_or_ge i L.length with hi | hi
    · have := hby (L[i]?.getD 0) (by rw [List.getElem?_eq_getElem hi]; exact List.getElem_mem hi)
      omega
    · rw [List.getElem?_eq_none hi]; decide
  have b0 := bd 0
  have b1 := bd 1
  have b2 := bd 2
  have b3 := bd 3
  have b4 := bd 4
  unfold headOf
  exact ⟨b0.1, b0.2, b1.1, b1.2, b2.1, b2.2, by show 0 ≤ L[3]?.getD 0 * 256 + L[4]?.getD 0; omega, by show L[3]?.getD 0 * 256 + L[4]?.getD 0 ≤ 65535; omega⟩
theorem prs_ok (L : List Int) (hby : ∀ x ∈ L, 0 ≤ x ∧ x < 256) : (prs L).1.Ok := by
  unfold prs
  split
  · exact hd0_ok
  · split
    · exact hd0_ok
    · exact headOf_ok L hby
theorem prs_len (L : List Int) : (prs L).2.1.length ≤ L.length := by
  unfold prs
  split
  · simp
  · split
    · simp
    · simp
theorem first_le (L : List Int) (hby : ∀ x ∈ L, 0 ≤ x ∧ x < 256) (h : ¬ L.length < 5) : L[0]?.getD 0 ≤ 255 := by
  have := hby (L[0]?.getD 0) (by rw [List.getElem?_eq_getElem (by omega)]; exact List.getElem_mem _)
  omega
theorem parse_all (v : Value) (L : List Int) (w : World) (hr : CutRow w v L) (hm : L.length ≤ 100000) (hby : ∀ x ∈ L, 0 ≤ x ∧ x < 256) :
    Calls Try.prog 16 #[v] w fun e w' => ∃ p, e = .returned (.tuple #[.agg (hdA (prs L).1), p, .int .i64 (prs L).2.2]) ∧ RowOf .u8 w' p (prs L).2.1 ∧ Below w.heap.size w w' := by
  unfold prs
  split
  · next h =>
    refine (parse_short v L w hr.1 h).mono ?_
    rintro e w' ⟨rfl, hb⟩
    exact ⟨_, rfl, row_nil _, hb⟩
  · next h =>
    split
    · next h2 =>
      refine (parse_form v L w hr.1 (by omega) h2 (first_le L hby h)).mono ?_
      rintro e w' ⟨rfl, hb⟩
      exact ⟨_, rfl, row_nil _, hb⟩
    · next h2 =>
      refine (parse_ok v L w hr (by omega) hm hby (by omega)).mono ?_
      rintro e w' ⟨p, rfl, hp, hb⟩
      exact ⟨p, rfl, hp.row, hb⟩
theorem rparse_all (v : Value) (L : List Int) (w : World) (hr : CutRow w v L) (hm : L.length ≤ 100000) (hby : ∀ x ∈ L, 0 ≤ x ∧ x < 256) :
    Calls Try.prog 17 #[v] w fun e w' => ∃ p, e = .returned (.tuple #[.agg (rhA (prs L).1), p, .int .i64 (prs L).2.2]) ∧ RowOf .u8 w' p (prs L).2.1 ∧ Below w.heap.size w w' := by
  unfold prs
  split
  · next h =>
    refine (rparse_short v L w hr.1 h).mono ?_
    rintro e w' ⟨rfl, hb⟩
    exact ⟨_, rfl, row_nil _, hb⟩
  · next h =>
    split
    · next h2 =>
      refine (rparse_form v L w hr.1 (by omega) h2 (first_le L hby h)).mono ?_
      rintro e w' ⟨rfl, hb⟩
      exact ⟨_, rfl, row_nil _, hb⟩
    · next h2 =>
      refine (rparse_ok v L w hr (by omega) hm hby (by omega)).mono ?_
      rintro e w' ⟨p, rfl, hp, hb⟩
      exact ⟨p, rfl, hp, hb⟩
theorem AnsP.one {o : Option (List Int)} {w w' : World} {e : Ending} (h : AnsP o w e w') : ∃ p, e = .returned (.tuple #[p, .bool o.isSome]) ∧ RowOf .u8 w' p (o.getD []) ∧ Below w.heap.size w w' := by
  obtain ⟨hb, h⟩ := h
  cases o with
  | none => exact ⟨_, h, row_nil _, hb⟩
  | some L =>
    obtain ⟨p, rfl, hp⟩ := h
    exact ⟨p, rfl, hp.row, hb⟩
/-- What the last return finds. -/
structure BQ (w : World) (g gp gr : Nat) (h H : Hd) (p q a x : Value) (T A : List Int) (W : World) : Prop where
  old : Below w.heap.size w W
  bh : W.heap[g]? = some (.cells (hdA h) 25 (0, 0))
  bp : W.heap[gp]? = some (.cells (hdA H) 25 (0, 0))
  br : W.heap[gr]? = some (.cells (rhA H) 31 (0, 0))
  rp : RowOf .u8 W p T
  rq : RowOf .u8 W q T
  ra : RowOf .u8 W a A
  rx : RowOf .u8 W x A
section
variable {w W W' : World} {g gp gr : Nat} {h H : Hd} {p q a x : Value} {T A : List Int}
theorem BQ.below (k : BQ w g gp gr h H p q a x T A W) (t : Below W.heap.size W W') : BQ w g gp gr h H p q a x T A W' :=
  ⟨k.old.trans (t.mono k.old.size), (t.block _ (lt_of_block k.bh)).trans k.bh, (t.block _ (lt_of_block k.bp)).trans k.bp, (t.block _ (lt_of_block k.br)).trans k.br, k.rp.below t, k.rq.below t, k.ra.below t, k.rx.below t⟩
theorem BQ.drew (k : BQ w g gp gr h H p q a x T A W) : BQ w g gp gr h H p q a x T A W.drew := k.below ((Below.refl _ W).drew)
theorem BQ.drewN (k : BQ w g gp gr h H p q a x T A W) (n : Nat) : BQ w g gp gr h H p q a x T A (W.drewN n) := k.below (below_drewN (Below.refl _ W) n)
theorem BQ.s (k : BQ w g gp gr h H p q a x T A W) : W.cell? ⟨g, 0, none⟩ = some (.int .u8 h.ty) ∧ W.cell? ⟨g, 1, none⟩ = some (.int .u8 h.rq) ∧ W.cell? ⟨g, 2, none⟩ = some (.int .u8 h.rs) ∧ W.cell? ⟨g, 3, none⟩ = some (.int .u16 h.seq)
    ∧ W.cell? ⟨gp, 0, none⟩ = some (.int .u8 H.ty) ∧ W.cell? ⟨gp, 1, none⟩ = some (.int .u8 H.rq) ∧ W.cell? ⟨gp, 2, none⟩ = some (.int .u8 H.rs) ∧ W.cell? ⟨gp, 3, none⟩ = some (.int .u16 H.seq)
    ∧ W.cell? ⟨gr, 0, none⟩ = some (.int .u8 H.ty) ∧ W.cell? ⟨gr, 1, none⟩ = some (.int .u8 H.rq) ∧ W.cell? ⟨gr, 2, none⟩ = some (.int .u8 H.rs) ∧ W.cell? ⟨gr, 3, none⟩ = some (.int .i64 H.seq) := by
  obtain ⟨a0, a1, a2, a3⟩ := boxed4 k.bh
  obtain ⟨b0, b1, b2, b3⟩ := boxed4 k.bp
  obtain ⟨c0, c1, c2, c3⟩ := boxed4 k.br
  exact ⟨a0, a1, a2, a3, b0, b1, b2, b3, c0, c1, c2, c3⟩
end
end Go.Proofs.Ytfijcdidcnfadaa.Head
