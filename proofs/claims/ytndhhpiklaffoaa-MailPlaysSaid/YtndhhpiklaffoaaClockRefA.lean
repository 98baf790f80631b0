/-
  The reference's clock: its alarms in a row, in any order; contracts of its Find and Drop.
-/
import Derived.Test.YtndhhpiklaffoaaClockSetsA
namespace Go.Proofs.Ytndhhpiklaffoaa.Clock
open Go.RowKit
open Mail (Turn ret_int ret_bool sameInts_any RowOf ownsRow_base info_int)
set_option linter.unusedVariables false

/-- The cells of the reference's alarms: the number, then the time. -/
def flatR (R : List (Int × Int)) : List Value := R.flatMap fun p => [.int .i64 p.2, .int .i64 p.1]
theorem flatR_length (R : List (Int × Int)) : (flatR R).length = R.length * 2 := by
  induction R with
  | nil => rfl
  | cons p R ih => simp [flatR, List.flatMap_cons] at ih ⊢; omega
theorem flatR_get (R : List (Int × Int)) : ∀ i, i < R.length → (flatR R)[i * 2]? = some (.int .i64 (R.getD i (0, 0)).2) ∧ (flatR R)[i * 2 + 1]? = some (.int .i64 (R.getD i (0, 0)).1) := by
  induction R with
  | nil => intro i h; simp at h
  | cons p R ih =>
    intro i h
    match i with
    | 0 => simp [flatR]
    | i + 1 =>
      have := ih i (by simpa using h)
      rw [show (i + 1) * 2 = i * 2 + 2 by omega]
      simpa [flatR] using this
theorem flatR_append (A B : List (Int × Int)) : flatR (A ++ B) = flatR A ++ flatR B := by simp [flatR]
/-- The call's own row of the reference's alarms. -/
def RefRow (base : Nat) (w : World) (v : Value) (R : List (Int × Int)) : Prop := w.ownsRow base 75 2 v R.length (flatR R)
theorem RefRow.below {base : Nat} {w w' : World} {v : Value} {R : List (Int × Int)} (h : RefRow base w v R) (u : Below w.heap.size w w') : RefRow base w' v R := by
  refine ⟨h.1, ?_⟩
  rcases h.2 with h0 | ⟨g, cap, cur, rfl, hg, hgb, rest⟩
  · exact .inl h0
  · exact .inr ⟨g, cap, cur, rfl, hg, (u.block g (lt_of_block hgb)).trans hgb, rest⟩
theorem RefRow.lit {base : Nat} {w : World} {v : Value} {R : List (Int × Int)} (h : RefRow base w v R) : (v = .slice none 0 0 ∧ R = []) ∨ ∃ g cap, v = .slice (some ⟨g, 0, none⟩) R.length cap ∧ base ≤ g ∧ g < w.heap.size ∧ ∀ i, i < R.length → w.cell? ⟨g, i * 2, none⟩ = some (.int .i64 (R.getD i (0, 0)).2) ∧ w.cell? ⟨g, i * 2 + 1, none⟩ = some (.int .i64 (R.getD i (0, 0)).1) := by
  rcases h.2 with ⟨rfl, h0⟩ | ⟨g, cap, cur, rfl, hg, hgb, rest⟩
  · exact .inl ⟨rfl, List.eq_nil_of_length_eq_zero h0⟩
  · refine .inr ⟨g, cap, rfl, hg, lt_of_block hgb, fun i hi => ?_⟩
    have hc := fun j u hu => World.ownsRow.cells h (g := g) rfl j u hu
    have e : ∀ j, (Addr.mk g 0 none).add j = ⟨g, j, none⟩ := fun j => by unfold Addr.add; split <;> simp_all
    obtain ⟨h1, h2⟩ := flatR_get R i hi
    have a1 := hc _ _ h1
    have a2 := hc _ _ h2
    rw [e] at a1 a2
    exact ⟨a1, a2⟩
def rcV (now : Int) (v : Value) : Value := .agg #[.int .i64 now, v]
def findI (R : List (Int × Int)) (id : Int) : Int := if has R id then (R.getD (fi R id) (0, 0)).1 else 0
theorem info_rc : (Try.prog.info? 60).map (fun i => (i.zero, i.size)) = some (some (.agg #[.int .i64 0, .slice none 0 0]), 2) := by kernel_rfl

/-- What Find's loop knows. -/
def FindRel (R : List (Int × Int)) (id : Int) (n : Nat) (W0 : World) (i : Value) (wr : World) : Prop := ∃ k : Nat, k ≤ n ∧ i = .int .i64 k ∧ wr = W0 ∧ ∀ j, j < k → (R.getD j (0, 0)).2 ≠ id
set_option maxRecDepth 100000 in
set_option maxHeartbeats 4000000 in
theorem rfind_any (base : Nat) (now id : Int) (v : Value) (R : List (Int × Int)) (w : World) (h : RefRow base w v R) (hl : R.length ≤ 200) :
    Calls Try.prog 29 #[.agg #[.int .i64 now, v], .int .i64 id] w fun e w' => e = .returned (.tuple #[.int .i64 (findI R id), .bool (has R id)]) ∧ Below w.heap.size w w' := by
  rcases h.lit with ⟨rfl, rfl⟩ | ⟨g, cap, rfl, hbg, hgw, hc⟩
  · go_enter Try.func29, Try.ntmps29
    go_wp2_with fail
    go_loopw [6] (fun i wr => i = .int .i64 0 ∧ wr = w.alloc (.cells #[.int .i64 now, .slice none 0 0] 60)) (fun _ _ => 0)
    case atStart => exact ⟨rfl, rfl⟩
    case round =>
      obtain ⟨rfl, rfl⟩ := hrel
      go_wp2
      go_ret2
      exact ⟨rfl, (Below.refl _ w).alloc (Nat.le_refl _) _⟩
  · obtain ⟨n, hn⟩ : ∃ n, n = R.length := ⟨_, rfl⟩
    rw [← hn]
    have hn200 : n ≤ 200 := by omega
    have HN := Lib.hid hn
    have HC := Lib.hid hc
    clear h hc hn hl
    obtain ⟨W0, hW⟩ : ∃ W0, W0 = w.alloc (.cells #[.int .i64 now, .slice (some ⟨g, 0, none⟩) n cap] 60) := ⟨_, rfl⟩
    have hb0 : Below w.heap.size w W0 := by rw [hW]; exact (Below.refl _ w).alloc (Nat.le_refl _) _
    have c0 : W0.cell? ⟨w.heap.size, 1, none⟩ = some (.slice (some ⟨g, 0, none⟩) n cap) := by rw [hW]; simp [go_sem]
    have HW := Lib.hid hW.symm
    clear hW
    go_enter Try.func29, Try.ntmps29
    go_wp2_with fail
    rw [HW.out]
    go_loopw [6] (fun i wr => FindRel R id n W0 i wr) (fun i _ => n - (intOf i).toNat)
    case atStart => exact ⟨0, by omega, rfl, rfl, fun j hj => absurd hj (by omega)⟩
    case round =>
      obtain ⟨k, hk, rfl, rfl, hno⟩ := hrel
      have HNO := Lib.hid hno
      clear hno
      by_cases hkn : k < n
      · have hkR : k < R.length := by have := HN.out; omega
        obtain ⟨h1, h2⟩ := HC.out k hkR
        have d1 := (hb0.cell (p := ⟨g, k * 2, none⟩) hgw).trans h1
        have d2 := (hb0.cell (p := ⟨g, k * 2 + 1, none⟩) hgw).trans h2
        obtain ⟨p, hp⟩ : ∃ p, p = R.getD k (0, 0) := ⟨_, rfl⟩
        rw [← hp] at d1 d2
        have HP := Lib.hid hp
        obtain ⟨p1, p2⟩ := p
        clear hp h1 h2
        by_cases he : p2 = id
        · subst he
          have hfi : fi R p2 = k := fi_at hkR (by rw [← HP.out]) HNO.out
          have hh : has R p2 = true := by unfold has; rw [hfi]; simpa using hkR
          have hr : findI R p2 = p1 := by unfold findI; rw [hh, hfi, ← HP.out]; rfl
          have HH := Lib.hid hh
          have HR := Lib.hid hr
          clear hfi hh hr
          go_wp2
          go_ret2
          exact ⟨by rw [HH.out, HR.out]; rfl, hb0⟩
        · have hef : (p2 == id) = false := by simpa using he
          go_wp2
          go_roundw
          case rel =>
            refine ⟨k + 1, by omega, by go_num, rfl, fun j hj => ?_⟩
            by_cases hjk : j < k
            · exact HNO.out j hjk
            · obtain rfl : j = k := by omega
              rw [← HP.out]; exact he
          case measure => simp [intOf]; omega
      · obtain rfl : k = n := by omega
        have hh : has R id = false := by
          rw [← Bool.not_eq_true, has_iff]
          rintro ⟨q, hq, he⟩
          obtain ⟨j, hj, rfl⟩ := List.getElem_of_mem hq
          have := HNO.out j (by have := HN.out; omega)
          simp [List.getD, hj] at this
          exact this he
        have hr : findI R id = 0 := by unfold findI; rw [hh]; rfl
        have HH := Lib.hid hh
        have HR := Lib.hid hr
        clear hh hr
        go_wp2
        go_ret2
        exact ⟨by rw [HH.out, HR.out]; rfl, hb0⟩
end Go.Proofs.Ytndhhpiklaffoaa.Clock
