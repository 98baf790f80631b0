/-
  The reference of layer 19: its open fields.
-/
import Derived.Test.YtlcjiffnmpkndaaFlZw
import Derived.Test.YtlcjiffnmpkndaaCaP
namespace Go.Proofs.Ytlcjiffnmpkndaa.Pl
open Go.RowKit Go.Shelf Base
set_option linter.unusedVariables false
set_option linter.unusedSimpArgs false

/-- The reference's fields, and a row of numbers that grows. -/
structure OsQ (w : World) (L : List Cl) (vl v : Value) (m : Nat) (xs : List Value) (W : World) : Prop where
  fl : W.ownsRow 0 99 3 vl (allL L).length (flatF (allL L))
  row : W.ownsRow 0 3 1 v m xs
  lo : ∀ j, v.ownBlock = some j → w.heap.size ≤ j
  old : Below w.heap.size w W
section
variable {w W W' : World} {L : List Cl} {vl v : Value} {m : Nat} {xs : List Value}
theorem OsQ.below (h : OsQ w L vl v m xs W) (t : Below W.heap.size W W') : OsQ w L vl v m xs W' :=
  ⟨row_turn h.fl (S := fun _ => False) (Turn.of_below t) (fun _ _ => id), row_turn h.row (S := fun _ => False) (Turn.of_below t) (fun _ _ => id), h.lo, h.old.trans (t.mono h.old.size)⟩
theorem OsQ.app (h : OsQ w L vl v m xs W) {W1 w1 : World} (hb : Below W.heap.size W W1) (hgrow : W1.grownBy w1 v.ownBlock) {v' : Value} {m' : Nat} {ys : List Value} (hown : w1.ownsRow 0 3 1 v' m' ys) (hat : v'.ownBlock = v.ownBlock ∨ v'.ownBlock = some W1.heap.size) :
    OsQ w L vl v' m' ys w1 := by
  have t1 : Turn (fun j => v.ownBlock = some j) W w1 := (Turn.of_below hb).grown hgrow (fun k hk => .inr hk)
  refine ⟨row_turn h.fl t1 ?_, hown, ?_, h.old.trans (t1.below h.old.size h.lo)⟩
  · intro j hj e
    obtain ⟨cs, e1⟩ := row_typed h.row j e
    obtain ⟨ds, e2⟩ := row_typed h.fl j hj
    rw [e1] at e2
    have : (3 : TypeId) = 99 := by
      have := Option.some.inj e2
      injection this
    exact absurd this (by decide)
  · intro j hj
    rcases hat with e | e
    · exact h.lo j (by rw [← e]; exact hj)
    · rw [e] at hj; cases hj; have := hb.size; have := h.old.size; omega
end
def opsK (L : List Cl) (i : Nat) : List Int := (((allL L).take i).filter goodF).map (·.s)
theorem opsK_yes {L : List Cl} {i : Nat} {f : Fd} (h : (allL L)[i]? = some f) (hg : goodF f = true) : opsK L (i + 1) = opsK L i ++ [f.s] := by
  obtain ⟨h1, h2⟩ := List.getElem?_eq_some_iff.1 h
  unfold opsK
  rw [List.take_succ_eq_append_getElem h1, h2, List.filter_append, List.map_append]
  simp [List.filter, hg]
theorem opsK_no {L : List Cl} {i : Nat} {f : Fd} (h : (allL L)[i]? = some f) (hg : goodF f = false) : opsK L (i + 1) = opsK L i := by
  obtain ⟨h1, h2⟩ := List.getElem?_eq_some_iff.1 h
  unfold opsK
  rw [List.take_succ_eq_append_getElem h1, h2, List.filter_append, List.map_append]
  simp [List.filter, hg]
theorem opsK_le (L : List Cl) (i : Nat) : (opsK L i).length ≤ i := by
  unfold opsK
  rw [List.length_map]
  refine Nat.le_trans (List.length_filter_le _ _) ?_
  rw [List.length_take]; omega
theorem opsK_all (L : List Cl) : opsK L (allL L).length = opsL L := by
  unfold opsK; rw [List.take_length, ops_all]
theorem all_len (L : List Cl) : (allL L).length ≤ L.length := allK_most _ _ _
set_option maxRecDepth 100000 in
set_option maxHeartbeats 2000000 in
theorem ropens_any {w : World} {gx n cap : Nat} {L : List Cl} (r c cur : Int) (hx : Rx w gx n cap L) (hbo : BoL L) : Calls Try.prog 36 #[xV r c (.slice (some ⟨gx, 0, none⟩) n cap) cur] w fun e W =>
    ∃ v, e = .returned v ∧ W.ownsRow 0 3 1 v (opsL L).length (intsV (opsL L)) ∧ (∀ j, v.ownBlock = some j → w.heap.size ≤ j) ∧ Below w.heap.size w W := by
  obtain ⟨i0, hi, hz0, hz1, hz2⟩ := info_parts info_int'
  obtain ⟨W0, hW0⟩ : ∃ W0, W0 = w.alloc (.cells #[.int .i64 r, .int .i64 c, .slice (some ⟨gx, 0, none⟩) n cap, .int .i64 cur] 29) := ⟨_, rfl⟩
  have hW0s : W0.heap.size = w.heap.size + 1 := by rw [hW0]; simp
  have hb0 : Below w.heap.size w W0 := by rw [hW0]; exact below_alloc _ _
  have c0 := heap_alloc_new w (.cells #[.int .i64 r, .int .i64 c, .slice (some ⟨gx, 0, none⟩) n cap, .int .i64 cur] 29)
  rw [← hW0] at c0
  have hn := hx.most
  have hlen := hx.len
  obtain ⟨W1, hW1⟩ : ∃ W1, W1 = W0.alloc (.cells #[] 3) := ⟨_, rfl⟩
  have hb1 : Below W0.heap.size W0 W1 := by rw [hW1]; exact below_alloc _ _
  have hrow1 := empty_row W0 3 1
  rw [← hW1] at hrow1
  have c1 := (hb1.block w.heap.size (by omega)).trans c0
  obtain ⟨q0, q1, q2, q3, _⟩ := blk4 c1
  have hx1 := (hx.below hb0).below hb1
  have HX1 := Lib.hid hx1
  have HR1 := Lib.hid hrow1
  have HB1 := Lib.hid (hb0.trans (hb1.mono hb0.size))
  have HW0 := Lib.hid hW0.symm
  have HW1 := Lib.hid hW1.symm
  have HBO := Lib.hid hbo
  have HALL := Lib.hid (rall_any r c cur hx1 hbo)
  have HAL := Lib.hid (all_len L)
  clear hx hx1 hrow1 hW0 hW1 hb0 hb1 c0 c1 hbo
  unfold xV at HALL ⊢
  go_enter Try.func36, Try.ntmps36
  go_wp2_with fail
  rw [HW0.out]
  try rw [HW1.out]
  refine HALL.out.mono ?_
  rintro e w2 ⟨vl, rfl, hrl, hb2⟩
  obtain ⟨a, capl, rfl, hga⟩ := rrow_shape hrl
  have h2 : OsQ w L (.slice a (allL L).length capl) (.slice (some ⟨W0.heap.size, 0, none⟩) 0 0) 0 [] w2 :=
    ⟨hrl, row_turn HR1.out (S := fun _ => False) (Turn.of_below hb2) (fun _ _ => id), by intro j hj; simp [Value.ownBlock] at hj; omega, HB1.out.trans (hb2.mono HB1.out.size)⟩
  have H2 := Lib.hid h2
  obtain ⟨M, hM⟩ : ∃ M, M = (allL L).length := ⟨_, rfl⟩
  have hMl : M ≤ 4096 := by have := HAL.out; omega
  have HM := Lib.hid hM
  rw [← hM] at hga H2 ⊢
  clear hrl hb2 h2 HALL HR1 hM q0 q1 q2 q3
  try rw [hW0s] at H2
  go_wp2_with fail
  go_loopw [3, 5] (fun p q wr => ∃ (i : Nat) (v : Value), p = v ∧ q = .int .i64 i ∧ i ≤ M ∧ OsQ w L (.slice a M capl) v (opsK L i).length (intsV (opsK L i)) wr) (fun _ q _ => M - (intOf q).toNat)
  case atStart => exact ⟨0, _, rfl, rfl, Nat.zero_le _, by first | exact H2.out | (rw [hW0s] at H2; exact H2.out)⟩
  case round =>
    obtain ⟨i, v, rfl, rfl, hin, hs⟩ := hrel
    have HS := Lib.hid hs
    by_cases hi1 : i < M
    · have hi2 : (i : Int) < (M : Int) := by omega
      have hi3 : (0 : Int) ≤ (i : Int) := by omega
      obtain ⟨gr, rfl⟩ := hga (by omega)
      obtain ⟨f, hf⟩ : ∃ f, (allL L)[i]? = some f := ⟨_, List.getElem?_eq_getElem (by rw [← HM.out]; exact hi1)⟩
      obtain ⟨f0, f1, f2⟩ := rflatF_get _ i f hf
      have hfl := hs.fl
      rw [← HM.out] at hfl
      have d0 := (hfl.cellAt (i * 3) (show _ < M * 3 by omega)).trans f0
      have d1 := (hfl.cellAt (i * 3 + 1) (show _ < M * 3 by omega)).trans f1
      have d2 := (hfl.cellAt (i * 3 + 2) (show _ < M * 3 by omega)).trans f2
      have hfa : 0 ≤ f.a ∧ f.a ≤ 255 := by
        obtain ⟨s, _, _, _, rfl⟩ := mem_allL (List.mem_of_getElem? hf)
        have := begF_a L HBO.out s
        omega
      have HF := Lib.hid hf
      have hown := hs.row
      have hol := opsK_le L i
      obtain ⟨fs, fk, fa⟩ := f
      simp only at d0 d1 d2 hfa
      obtain ⟨p, hp⟩ : ∃ p, p = Attr.prot fa := ⟨_, rfl⟩
      have HP := Lib.hid hp
      have hGF : goodF ⟨fs, fk, fa⟩ = (decide (0 < fk) && !p) := by unfold goodF; rw [hp]
      have HGF := Lib.hid hGF
      clear hs hf f0 f1 f2 hfl hp hGF
      by_cases hk : 0 < fk
      · cases p with
        | true =>
          have HY := Lib.hid (opsK_no HF.out (by rw [HGF.out]; simp))
          clear hown
          go_wp2_with (go_at_call 66; refine (Attr.rbit32 fa _ hfa.1 hfa.2).mono ?_; rintro e w' ⟨he, rfl⟩; rw [← HP.out] at he; subst he)
          go_roundw
          case rel => exact ⟨i + 1, _, rfl, by go_num, by omega, by rw [HY.out]; exact HS.out⟩
          case measure => simp [intOf]; omega
        | false =>
          have HY := Lib.hid (opsK_yes HF.out (by rw [HGF.out]; simp [hk]))
          go_wp2_with (first
            | (go_at_call 66; refine (Attr.rbit32 fa _ hfa.1 hfa.2).mono ?_; rintro e w' ⟨he, rfl⟩; rw [← HP.out] at he; subst he)
            | (at_builtin; refine wpList_append_own_at _ rfl _ _ 44 rfl 0 3 i0 (.int .i64 0) 1 8 Try.underlying44 hi hz0 hz1 hz2 rfl (by decide) _ _ _ rfl (hown.alloc _) ⟨wr.heap.size, 0, none⟩ 1 1 [.int .i64 fs] rfl rfl (cell_one_new _ _ _) (by simp [Value.oneCell']) (by unfold maxLen; omega) (by omega) (Nat.zero_le _) ?_; intro v1 w1 hown1 hgrow1 _ hat1))
          have HS1 := Lib.hid (HS.out.app (below_alloc _ _) hgrow1 hown1 hat1)
          clear hgrow1 hown1 hat1 hown
          go_roundw
          case rel => exact ⟨i + 1, _, rfl, by go_num, by omega, by rw [HY.out, intsV, List.map_append, List.length_append]; exact HS1.out⟩
          case measure => simp [intOf]; omega
      · have HY := Lib.hid (opsK_no HF.out (by rw [HGF.out]; simp [hk]))
        clear hown
        go_wp2
        go_roundw
        case rel => exact ⟨i + 1, _, rfl, by go_num, by omega, by rw [HY.out]; exact HS.out⟩
        case measure => simp [intOf]; omega
    · have hie : i = (allL L).length := by have := HM.out; omega
      have HIE := Lib.hid hie
      clear hs hie
      go_wp2
      go_ret
      exact ⟨_, rfl, by rw [← opsK_all, ← HIE.out]; exact HS.out.row, HS.out.lo, HS.out.old⟩
end Go.Proofs.Ytlcjiffnmpkndaa.Pl
