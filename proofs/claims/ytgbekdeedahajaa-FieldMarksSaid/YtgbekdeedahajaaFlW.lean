/-
  The reference's attributes' places.
-/
import Derived.Test.YtgbekdeedahajaaFlT
namespace Go.Proofs.Ytgbekdeedahajaa.Pl
open Go.RowKit Go.Shelf Base
set_option linter.unusedVariables false
set_option linter.unusedSimpArgs false

/-- The reference's plane: its row of cells. -/
structure Rx (W : World) (gx n cap : Nat) (L : List Cl) : Prop where
  row : W.ownsRow 0 45 5 (.slice (some ⟨gx, 0, none⟩) n cap) n (flatC L)
  len : L.length = n
  most : n ≤ 4096
theorem Rx.lt {W : World} {gx n cap : Nat} {L : List Cl} (h : Rx W gx n cap L) : gx < W.heap.size := (h.row.lt gx rfl).2
theorem Rx.below {W W' : World} {gx n cap : Nat} {L : List Cl} (h : Rx W gx n cap L) (t : Below W.heap.size W W') : Rx W' gx n cap L := ⟨own_keep h.row t.size (t.block gx h.lt), h.len, h.most⟩
theorem Rx.five {W : World} {gx n cap : Nat} {L : List Cl} (h : Rx W gx n cap L) {i : Nat} {x : Cl} (hx : L[i]? = some x) : C5 W gx (i * 5) x := by
  have hi : i < L.length := (List.getElem?_eq_some_iff.1 hx).1
  have hl := h.len
  obtain ⟨f0, f1, f2, f3, f4⟩ := flatC_get L i x hx
  exact ⟨(h.row.cellAt _ (by omega)).trans f0, (h.row.cellAt _ (by omega)).trans f1, (h.row.cellAt _ (by omega)).trans f2, (h.row.cellAt _ (by omega)).trans f3, (h.row.cellAt _ (by omega)).trans f4⟩
/-- The reference's plane in a box s of the call's own, and a row that grows. -/
structure StQ (w : World) (s gx n cap : Nat) (r c cur : Int) (L : List Cl) (et : TypeId) (k : Nat) (v : Value) (m : Nat) (xs : List Value) (W : World) : Prop where
  bx : W.heap[s]? = some (.cells #[.int .i64 r, .int .i64 c, .slice (some ⟨gx, 0, none⟩) n cap, .int .i64 cur] 28 (0, 0))
  rx : Rx W gx n cap L
  row : W.ownsRow 0 et k v m xs
  lo : ∀ j, v.ownBlock = some j → w.heap.size ≤ j
  old : Below w.heap.size w W
  lg : gx < w.heap.size
section
variable {w W W' : World} {s gx n cap : Nat} {r c cur : Int} {L : List Cl} {et : TypeId} {k : Nat} {v : Value} {m : Nat} {xs : List Value}
theorem StQ.below (h : StQ w s gx n cap r c cur L et k v m xs W) (t : Below W.heap.size W W') : StQ w s gx n cap r c cur L et k v m xs W' :=
  ⟨(t.block _ (lt_of_block h.bx)).trans h.bx, h.rx.below t, row_turn h.row (S := fun _ => False) (Turn.of_below t) (fun _ _ => id), h.lo, h.old.trans (t.mono h.old.size), h.lg⟩
theorem StQ.q (h : StQ w s gx n cap r c cur L et k v m xs W) : W.cell? ⟨s, 0, none⟩ = some (.int .i64 r) ∧ W.cell? ⟨s, 1, none⟩ = some (.int .i64 c) ∧ W.cell? ⟨s, 2, none⟩ = some (.slice (some ⟨gx, 0, none⟩) n cap) ∧ W.cell? ⟨s, 3, none⟩ = some (.int .i64 cur) :=
  ⟨by simp [World.cell?, h.bx], by simp [World.cell?, h.bx], by simp [World.cell?, h.bx], by simp [World.cell?, h.bx]⟩
/-- Behind an append: s isn't the row's block, as it is another kind's. -/
theorem StQ.app (h : StQ w s gx n cap r c cur L et k v m xs W) (he : 28 ≠ et) {W1 w1 : World} (hb : Below W.heap.size W W1) (hgrow : W1.grownBy w1 v.ownBlock) {v' : Value} {m' : Nat} {ys : List Value} (hown : w1.ownsRow 0 et k v' m' ys) (hat : v'.ownBlock = v.ownBlock ∨ v'.ownBlock = some W1.heap.size) :
    StQ w s gx n cap r c cur L et k v' m' ys w1 := by
  have t1 : Turn (fun j => v.ownBlock = some j) W w1 := (Turn.of_below hb).grown hgrow (fun k hk => .inr hk)
  have hs : ¬ v.ownBlock = some s := by
    intro e
    obtain ⟨cs, e'⟩ := row_typed h.row s e
    rw [h.bx] at e'; cases e'; exact he rfl
  have hg : ¬ v.ownBlock = some gx := fun e => by have := h.lo gx e; have := h.lg; omega
  refine ⟨(t1.block _ (lt_of_block h.bx) hs).trans h.bx, ⟨own_keep h.rx.row t1.size (t1.block gx h.rx.lt hg), h.rx.len, h.rx.most⟩, hown, ?_, h.old.trans (t1.below h.old.size h.lo), h.lg⟩
  intro j hj
  rcases hat with e | e
  · exact h.lo j (by rw [← e]; exact hj)
  · rw [e] at hj; cases hj; have := hb.size; have := h.old.size; omega
end
def startsK (L : List Cl) (i : Nat) : List Int := (allK L (fun _ => L) i).map (·.s)
def startsL (L : List Cl) : List Int := startsK L L.length
theorem startsK_yes {L : List Cl} {i : Nat} (h : (atL L i).st = true) : startsK L (i + 1) = startsK L i ++ [(i : Int)] := by unfold startsK; rw [allK_succ_yes h, List.map_append]; rfl
theorem startsK_no {L : List Cl} {i : Nat} (h : (atL L i).st = false) : startsK L (i + 1) = startsK L i := by unfold startsK; rw [allK_succ_no h]
theorem startsK_le (L : List Cl) (i : Nat) : (startsK L i).length ≤ i := by unfold startsK; rw [List.length_map]; exact allK_most _ _ _
def intsV (X : List Int) : List Value := X.map (Value.int .i64)
theorem empty_row (W : World) (et : TypeId) (k : Nat) : (W.alloc (.cells #[] et)).ownsRow 0 et k (.slice (some ⟨W.heap.size, 0, none⟩) 0 0) 0 [] :=
  World.ownsRow_lit (base := 0) (e := et) (size := k) W #[] 0 (Nat.zero_le _) (by unfold maxLen; omega) (by simp)
set_option maxRecDepth 100000 in
set_option maxHeartbeats 2000000 in
theorem rstarts_any {w : World} {gx n cap : Nat} {L : List Cl} (r c cur : Int) (hx : Rx w gx n cap L) : Calls Try.prog 58 #[xV r c (.slice (some ⟨gx, 0, none⟩) n cap) cur] w fun e W =>
    ∃ v, e = .returned v ∧ W.ownsRow 0 3 1 v (startsL L).length (intsV (startsL L)) ∧ Below w.heap.size w W := by
  obtain ⟨i0, hi, hz0, hz1, hz2⟩ := info_parts info_int'
  obtain ⟨W0, hW0⟩ : ∃ W0, W0 = w.alloc (.cells #[.int .i64 r, .int .i64 c, .slice (some ⟨gx, 0, none⟩) n cap, .int .i64 cur] 28) := ⟨_, rfl⟩
  have hW0s : W0.heap.size = w.heap.size + 1 := by rw [hW0]; simp
  have hq : StQ w w.heap.size gx n cap r c cur L 3 1 (.slice (some ⟨W0.heap.size, 0, none⟩) 0 0) 0 [] (W0.alloc (.cells #[] 3)) := by
    have hb : Below w.heap.size w W0 := by rw [hW0]; exact below_alloc _ _
    refine ⟨?_, (hx.below hb).below (below_alloc _ _), empty_row W0 _ _, ?_, hb.alloc hb.size _, hx.lt⟩
    · rw [Below.heap_alloc _ _ _ (by omega), hW0]; exact heap_alloc_new _ _
    · intro j hj; simp [Value.ownBlock] at hj; omega
  have hn := hx.most
  have hlen := hx.len
  have HQ := Lib.hid hq
  have HW0 := Lib.hid hW0.symm
  clear hW0 hq hx
  unfold xV
  go_enter Try.func58, Try.ntmps58
  go_wp2_with fail
  rw [HW0.out]
  try rw [hW0s] at HQ
  go_loopw [3, 4] (fun p q wr => ∃ (i : Nat) (v : Value), p = v ∧ q = .int .i64 i ∧ i ≤ n ∧ StQ w w.heap.size gx n cap r c cur L 3 1 v (startsK L i).length (intsV (startsK L i)) wr) (fun _ q _ => n - (intOf q).toNat)
  case atStart => exact ⟨0, _, rfl, rfl, Nat.zero_le _, by first | exact HQ.out | (rw [hW0s] at HQ; exact HQ.out)⟩
  case round =>
    obtain ⟨i, v, rfl, rfl, hin, hs⟩ := hrel
    have HS := Lib.hid hs
    obtain ⟨q0, q1, q2, q3⟩ := hs.q
    by_cases hi1 : i < n
    · have hi2 : (i : Int) < (n : Int) := by omega
      obtain ⟨x, hx⟩ : ∃ x, L[i]? = some x := ⟨_, List.getElem?_eq_getElem (by omega)⟩
      have hat := atL_yes hx
      obtain ⟨d0, d1, d2, d3, d4⟩ := hs.rx.five hx
      have hsl := startsK_le L i
      have hown := hs.row
      obtain ⟨xb, xg, xs, xl, xc⟩ := x
      simp only at d0 d1 d2 d3 d4
      cases xs with
      | true =>
        have HY := Lib.hid (startsK_yes (L := L) (i := i) (by rw [hat]))
        clear hs hx hat
        go_wp2_with (at_builtin; refine wpList_append_own_at _ rfl _ _ 41 rfl 0 3 i0 (.int .i64 0) 1 8 Try.underlying41 hi hz0 hz1 hz2 rfl (by decide) _ _ _ rfl (hown.alloc _) ⟨wr.heap.size, 0, none⟩ 1 1 [.int .i64 i] rfl rfl (cell_one_new _ _ _) (by simp [Value.oneCell']) (by unfold maxLen; omega) (by omega) (Nat.zero_le _) ?_; intro v1 w1 hown1 hgrow1 _ hat1)
        have HS1 := Lib.hid (HS.out.app (by decide) (below_alloc _ _) hgrow1 hown1 hat1)
        clear hgrow1 hown1 hat1 hown
        go_roundw
        case rel => exact ⟨i + 1, _, rfl, by go_num, by omega, by rw [HY.out, intsV, List.map_append, List.length_append]; exact HS1.out⟩
        case measure => simp [intOf]; omega
      | false =>
        have HY := Lib.hid (startsK_no (L := L) (i := i) (by rw [hat]))
        clear hs hx hat hown
        go_wp2
        go_roundw
        case rel => exact ⟨i + 1, _, rfl, by go_num, by omega, by rw [HY.out]; exact HS.out⟩
        case measure => simp [intOf]; omega
    · have hi2 : ¬ (i : Int) < (n : Int) := by omega
      have hie : i = L.length := by omega
      clear hs
      go_wp2
      go_ret
      exact ⟨_, rfl, by unfold startsL; rw [← hie]; exact HS.out.row, HS.out.old⟩
end Go.Proofs.Ytgbekdeedahajaa.Pl
