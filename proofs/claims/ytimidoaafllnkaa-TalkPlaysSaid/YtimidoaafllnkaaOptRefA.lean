/-
  The reference's options: its states in a row; contracts of its State and Busy.
-/
import Derived.Test.YtimidoaafllnkaaOptMayA
import Derived.Laws.Rows
import Derived.Laws.ResultCell
namespace Go.Proofs.Ytimidoaafllnkaa.Opt
open Go.RowKit Base
set_option linter.unusedVariables false

abbrev One := Bool × Nat × Nat
/-- The cells of the reference's states: whose, the option, the state. -/
def flatO (L : List One) : List Value := L.flatMap fun p => [.bool p.1, .int .u8 p.2.1, .int .i64 p.2.2]
theorem flatO_length (L : List One) : (flatO L).length = L.length * 3 := by
  induction L with
  | nil => rfl
  | cons p R ih => simp [flatO, List.flatMap_cons] at ih ⊢; omega
theorem flatO_get (L : List One) : ∀ (i : Nat) (p : One), L[i]? = some p → (flatO L)[i * 3]? = some (.bool p.1) ∧ (flatO L)[i * 3 + 1]? = some (.int .u8 p.2.1) ∧ (flatO L)[i * 3 + 2]? = some (.int .i64 p.2.2) := by
  induction L with
  | nil => intro i p h; simp at h
  | cons q R ih =>
    intro i p h
    match i with
    | 0 => simp at h; subst h; simp [flatO]
    | i + 1 =>
      have := ih i p (by simpa using h)
      rw [show (i + 1) * 3 = i * 3 + 3 by omega]
      simpa [flatO] using this
theorem flatO_append (A B : List One) : flatO (A ++ B) = flatO A ++ flatO B := by simp [flatO]
/-- The call's own row of states. -/
def OneRow (base : Nat) (w : World) (v : Value) (L : List One) : Prop := w.ownsRow base 127 3 v L.length (flatO L)
theorem OneRow.keep {base : Nat} {w w' : World} {v : Value} {L : List One} (h : OneRow base w v L) (u : ∀ g, base ≤ g → g < w.heap.size → w'.heap[g]? = w.heap[g]?) : OneRow base w' v L := by
  refine ⟨h.1, ?_⟩
  rcases h.2 with h0 | ⟨g, cap, cur, rfl, hg, hgb, rest⟩
  · exact .inl h0
  · exact .inr ⟨g, cap, cur, rfl, hg, (u g hg (lt_of_block hgb)).trans hgb, rest⟩
theorem OneRow.below {base : Nat} {w w' : World} {v : Value} {L : List One} (h : OneRow base w v L) (u : Below w.heap.size w w') : OneRow base w' v L := h.keep fun g _ hl => u.block g hl
theorem OneRow.base {base base' : Nat} {w : World} {v : Value} {L : List One} (h : OneRow base w v L) (hb : base' ≤ base) : OneRow base' w v L := ownsRow_base h hb
theorem OneRow.slice {base : Nat} {w : World} {v : Value} {L : List One} (h : OneRow base w v L) : ∃ a cap, v = .slice a L.length cap := by
  rcases h.2 with ⟨rfl, h0⟩ | ⟨g, cap, cur, rfl, _⟩
  · exact ⟨none, 0, by rw [h0]⟩
  · exact ⟨_, _, rfl⟩
/-- What is read of it. -/
theorem OneRow.read {base : Nat} {w : World} {v : Value} {L : List One} (h : OneRow base w v L) : ∃ a cap, v = .slice a L.length cap ∧ (L ≠ [] → ∃ g, a = some ⟨g, 0, none⟩ ∧ base ≤ g ∧ g < w.heap.size ∧ ∀ (i : Nat) (p : One), L[i]? = some p → w.cell? ⟨g, i * 3, none⟩ = some (.bool p.1) ∧ w.cell? ⟨g, i * 3 + 1, none⟩ = some (.int .u8 p.2.1) ∧ w.cell? ⟨g, i * 3 + 2, none⟩ = some (.int .i64 p.2.2)) := by
  rcases h.2 with ⟨rfl, h0⟩ | ⟨g, cap, cur, rfl, hg, hgb, rest⟩
  · exact ⟨none, 0, by rw [h0], fun hne => absurd (List.eq_nil_of_length_eq_zero h0) hne⟩
  · refine ⟨_, cap, rfl, fun _ => ⟨g, rfl, hg, lt_of_block hgb, fun i p hi => ?_⟩⟩
    have hc := fun j u hu => World.ownsRow.cells h (g := g) rfl j u hu
    have e : ∀ j, (Addr.mk g 0 none).add j = ⟨g, j, none⟩ := fun j => by unfold Addr.add; split <;> simp_all
    obtain ⟨h1, h2, h3⟩ := flatO_get L i p hi
    have a1 := hc _ _ h1
    have a2 := hc _ _ h2
    have a3 := hc _ _ h3
    rw [e] at a1 a2 a3
    exact ⟨a1, a2, a3⟩
def isKey (ours : Bool) (o : Nat) (p : One) : Bool := p.1 == ours && p.2.1 == o
/-- The state that is told of an option. -/
def stL (L : List One) (ours : Bool) (o : Nat) : Nat := ((L.find? (isKey ours o)).map (·.2.2)).getD 0
theorem stL_at {L : List One} {ours : Bool} {o k : Nat} {p : One} (h : L[k]? = some p) (hp : isKey ours o p = true) (hn : ∀ j q, j < k → L[j]? = some q → isKey ours o q = false) : stL L ours o = p.2.2 := by
  unfold stL
  have : L.find? (isKey ours o) = some p := by
    rw [List.find?_eq_some_iff_getElem]
    obtain ⟨hk, rfl⟩ := List.getElem?_eq_some_iff.1 h
    refine ⟨hp, k, hk, rfl, fun j hj => ?_⟩
    have := hn j L[j] hj (by simp [show j < L.length by omega])
    simp [this]
  rw [this]; rfl
theorem stL_none {L : List One} {ours : Bool} {o : Nat} (hn : ∀ j q, j < L.length → L[j]? = some q → isKey ours o q = false) : stL L ours o = 0 := by
  unfold stL
  have : L.find? (isKey ours o) = none := by
    rw [List.find?_eq_none]
    intro x hx
    obtain ⟨j, hj, rfl⟩ := List.mem_iff_getElem.1 hx
    simp [hn j L[j] hj (by simp [hj])]
  rw [this]; rfl
set_option maxHeartbeats 2000000 in
theorem rstate_any (base : Nat) (v y z : Value) (L : List One) (ours : Bool) (o : Nat) (w : World) (h : OneRow base w v L) (hl : L.length ≤ 1000) :
    Calls Try.prog 40 #[.agg #[v, y, z], .bool ours, .int .u8 o] w fun e w' => e = .returned (.int .i64 (stL L ours o)) ∧ Below w.heap.size w w' := by
  have h := h.below (below_alloc w (.cells #[v, y, z] 46))
  have hb := below_alloc w (.cells #[v, y, z] 46)
  obtain ⟨W, hW⟩ : ∃ W, W = w.alloc (.cells #[v, y, z] 46) := ⟨_, rfl⟩
  rw [← hW] at h hb
  have c0 : W.cell? ⟨w.heap.size, 0, none⟩ = some v := by rw [hW]; simp [go_sem]
  obtain ⟨a, cap, rfl, hrow⟩ := h.read
  obtain ⟨n, hn⟩ : ∃ n, n = L.length := ⟨_, rfl⟩
  rw [← hn] at hl c0 hW ⊢
  have HN := Lib.hid hn
  have HR := Lib.hid hrow
  have HW := Lib.hid hW.symm
  have HB := Lib.hid hb
  clear hn hrow hW hb h
  go_enter Try.func40, Try.ntmps40
  go_wp2_with fail
  rw [HW.out]
  go_wp2_with fail
  go_loop [7] (fun i => ∃ k : Nat, k ≤ n ∧ i = .int .i64 k ∧ Hid (∀ j q, j < k → L[j]? = some q → isKey ours o q = false)) (fun i => n - (intOf i).toNat)
  case atStart => exact ⟨0, by omega, rfl, fun j q hj => absurd hj (by omega)⟩
  case round =>
    obtain ⟨k, hk, rfl, hno⟩ := hrel
    by_cases hkn : k < n
    · have hkl : k < L.length := by rw [← HN.out]; exact hkn
      obtain ⟨g, rfl, _, _, hc⟩ := HR.out (by intro e; rw [e] at hkl; simp at hkl)
      obtain ⟨q, hq⟩ : ∃ q, L[k]? = some q := ⟨_, List.getElem?_eq_getElem hkl⟩
      obtain ⟨p1, p2, p3⟩ := q
      obtain ⟨d0, d1, d2⟩ := hc k _ hq
      simp only at d0 d1 d2
      have HQ := Lib.hid hq
      clear hc hkl hq
      have next : isKey ours o (p1, p2, p3) = false → ∀ j q, j < k + 1 → L[j]? = some q → isKey ours o q = false := by
        intro hf j q hj hq
        by_cases hjk : j < k
        · exact hno.out j q hjk hq
        · obtain rfl : j = k := by omega
          rw [HQ.out] at hq
          cases hq
          exact hf
      have NEXT := Lib.hid next
      clear next
      by_cases e1 : p1 = ours
      · subst e1
        by_cases e2 : p2 = o
        · subst e2
          go_wp2_with fail
          go_ret
          exact ⟨by rw [stL_at HQ.out (by simp [isKey]) hno.out]; rfl, HB.out⟩
        · have t2 : ((p2 : Int) == (o : Int)) = false := by simp; omega
          have HE := Lib.hid e2
          clear e2
          go_wp2_with fail
          go_round
          case rel => exact ⟨k + 1, by omega, by go_num, NEXT.out (by simp [isKey]; exact HE.out)⟩
          case measure => simp [intOf]; omega
      · have t1 : (p1 == ours) = false := by simpa using e1
        have HE := Lib.hid e1
        clear e1
        go_wp2_with fail
        go_round
        case rel => exact ⟨k + 1, by omega, by go_num, NEXT.out (by simp [isKey]; intro h; exact absurd h HE.out)⟩
        case measure => simp [intOf]; omega
    · obtain rfl : n = k := by omega
      go_wp2_with fail
      go_ret
      exact ⟨by rw [stL_none (by rw [← HN.out]; exact hno.out)]; rfl, HB.out⟩
def busyL (L : List One) : Bool := L.any fun p => decide (1 < p.2.2)
end Go.Proofs.Ytimidoaafllnkaa.Opt
