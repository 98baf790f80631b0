/-
  Filled planes, plainly; what the law of filling holds.
-/
import Derived.Test.YtkkcdahfiegopaaDoorPlP
namespace Go.Proofs.YtkkcdahfiegopaaDoor.Pl
open Go.RowKit Go.Shelf Base
set_option linter.unusedVariables false
set_option linter.unusedSimpArgs false

theorem atL_setL (L : List Cl) (i p : Int) (x : Cl) (hp : 0 ≤ p ∧ p < L.length) : atL (setL L p x) i = if i = p then x else atL L i := by
  unfold setL
  rw [if_pos hp]
  unfold atL
  rw [List.length_set]
  by_cases h : i = p
  · subst h
    rw [if_pos hp, if_pos rfl, List.getElem?_set, if_pos rfl, if_pos (by omega)]; rfl
  · rw [if_neg h]
    by_cases hi : 0 ≤ i ∧ i < L.length
    · rw [if_pos hi, if_pos hi, List.getElem?_set, if_neg (by omega)]
    · rw [if_neg hi, if_neg hi]
theorem atL_fill (i : Int) (x : Cl) : ∀ (ps : List Int) (L : List Cl), (∀ p ∈ ps, 0 ≤ p ∧ p < L.length) → atL (fillL L ps x) i = if i ∈ ps then x else atL L i
  | [], L, _ => by simp [fillL]
  | p :: ps, L, h => by
    have ih := atL_fill i x ps (setL L p x) (fun q hq => by rw [setL_length]; exact h q (by simp [hq]))
    show atL (fillL (setL L p x) ps x) i = _
    rw [ih, atL_setL L i p x (h p (by simp))]
    by_cases h1 : i ∈ ps
    · rw [if_pos h1, if_pos (by simp [h1])]
    · rw [if_neg h1]
      by_cases h2 : i = p
      · rw [if_pos h2, if_pos (by simp [h2])]
      · rw [if_neg h2, if_neg (by simp [h1, h2])]
theorem betw_in (n a b : Int) (hn : 0 < n) : ∀ p ∈ betw n a b, 0 ≤ p ∧ p < n := by
  intro p hp
  unfold betw at hp
  split at hp
  · obtain ⟨j, _, rfl⟩ := List.mem_map.1 hp
    exact step_bd n a j hn
  · simp at hp
theorem emod_two (n x : Int) (h0 : 0 ≤ x) (h1 : x < 2 * n) : x % n = if x < n then x else x - n := by
  by_cases h : x < n
  · rw [if_pos h, Int.emod_eq_of_lt h0 h]
  · rw [if_neg h, ← Int.sub_emod_right, Int.emod_eq_of_lt (by omega) (by omega)]
theorem mem_betw (n f t i : Int) (hin : inn n f t = true) (h0 : 0 ≤ i) (h1 : i < n) : i ∈ betw n f t ↔ (i - f + n) % n < many n f t := by
  have hi' : 0 ≤ f ∧ f < n ∧ 0 ≤ t ∧ t < n := of_decide_eq_true hin
  have hm := many_bd n f t hin
  unfold betw first
  rw [if_pos hin, List.mem_map, emod_two n _ (by omega) (by omega)]
  constructor
  · rintro ⟨j, hj, e⟩
    have hj := List.mem_range.1 hj
    unfold step at e
    rw [emod_two n _ (by omega) (by omega)] at e
    split at e <;> split <;> omega
  · intro h
    refine ⟨(if i - f + n < n then i - f + n else i - f).toNat, List.mem_range.2 ?_, ?_⟩
    · split at h <;> split <;> omega
    · unfold step
      rw [emod_two n _ (by split <;> omega) (by split <;> split at h <;> omega)]
      split at h <;> split <;> split <;> omega
theorem betw_len (n f t : Int) (hin : inn n f t = true) : (betw n f t).length = many n f t := by
  unfold betw; rw [if_pos hin, first_length]
theorem inn_of {n f t : Int} (h : 0 ≤ f ∧ f < n ∧ 0 ≤ t ∧ t < n) : inn n f t = true := decide_eq_true h
/-- All places, filled both ways. -/
theorem both_ways (n f t i : Int) (hf : 0 ≤ f ∧ f < n) (ht : 0 ≤ t ∧ t < n) (h0 : 0 ≤ i) (h1 : i < n) : i ∈ betw n f t ∨ (f ≠ t ∧ i ∈ betw n t f) := by
  rw [mem_betw n f t i (inn_of ⟨hf.1, hf.2, ht.1, ht.2⟩) h0 h1, mem_betw n t f i (inn_of ⟨ht.1, ht.2, hf.1, hf.2⟩) h0 h1, emod_two n _ (by omega) (by omega), emod_two n _ (by omega) (by omega)]
  unfold many
  split <;> split <;> split <;> split <;> omega
theorem both_many (n f t : Int) (hf : 0 ≤ f ∧ f < n) (ht : 0 ≤ t ∧ t < n) : (f = t → (many n f t : Int) = n) ∧ (f ≠ t → (many n f t : Int) + many n t f = n) := by
  unfold many
  constructor
  · intro h; split <;> omega
  · intro h; split <;> split <;> omega
/-- What the law holds: its cell's block, two planes. -/
structure FQ (s : Nat) (w : World) (x : Cl) (r c : Int) (b g b2 g2 : Nat) (L M : List Cl) (W : World) : Prop where
  bx : W.heap[s + 1]? = some (.cells #[.int .u8 x.b, .bool x.ge, .bool x.st, .int .u8 x.li, .int .u8 x.co] 36 (0, 0))
  p : PlAt W b g r c 0 L
  q : PlAt W b2 g2 r c 0 M
  old : Below s w W
  ne : b ≠ g2 ∧ g ≠ g2 ∧ s + 1 < g2
section
variable {s : Nat} {w W W' : World} {x : Cl} {r c : Int} {b g b2 g2 : Nat} {L M M' : List Cl}
theorem FQ.below (h : FQ s w x r c b g b2 g2 L M W) (t : Below W.heap.size W W') : FQ s w x r c b g b2 g2 L M W' :=
  ⟨(t.block _ (lt_of_block h.bx)).trans h.bx, h.p.below t, h.q.below t, h.old.trans (t.mono (by have := lt_of_block h.bx; omega)), h.ne⟩
theorem FQ.turn (h : FQ s w x r c b g b2 g2 L M W) (hq : PlAt W' b2 g2 r c 0 M') (t : Turn (At g2) W W') : FQ s w x r c b g b2 g2 L M' W' :=
  ⟨(t.block _ (lt_of_block h.bx) (by show s + 1 ≠ g2; have := h.ne; omega)).trans h.bx, h.p.turn t h.ne.1 h.ne.2.1, hq, h.old.trans (t.at_below (by have := lt_of_block h.bx; omega) (by have := h.ne; omega)), h.ne⟩
theorem cell5 (h : W.heap[b]? = some (.cells #[.int .u8 x.b, .bool x.ge, .bool x.st, .int .u8 x.li, .int .u8 x.co] 36 (0, 0))) : C5 W b 0 x :=
  ⟨by simp [World.cell?, h], by simp [World.cell?, h], by simp [World.cell?, h], by simp [World.cell?, h], by simp [World.cell?, h]⟩
end
end Go.Proofs.YtkkcdahfiegopaaDoor.Pl
