/-
  The document's Home.
  The document's After.
  The document's Open.
  The document's sign of a cell.
  The document's text of a field.
-/
import Derived.Test.YtgjhboikfbafcaaFlZ
import Derived.Test.YtgjhboikfbafcaaFlI
import Derived.Test.YtgjhboikfbafcaaFlN
namespace Go.Proofs.Ytgjhboikfbafcaa.Pl
open Go.RowKit Go.Shelf Base
set_option linter.unusedVariables false
set_option linter.unusedSimpArgs false

/-- The document's plane in a box, and the row of all fields. -/
structure HmQ (w : World) (s gx n cap : Nat) (r c cur : Int) (L : List Cl) (vl : Value) (m : Nat) (W : World) : Prop where
  bx : W.heap[s]? = some (.cells #[.int .i64 r, .int .i64 c, .slice (some ⟨gx, 0, none⟩) n cap, .int .i64 cur] 28 (0, 0))
  rx : Rx W gx n cap L
  row : W.ownsRow 0 40 3 vl m (flatF (allL L))
  old : Below s w W
section
variable {w W W' : World} {s gx n cap : Nat} {r c cur : Int} {L : List Cl} {vl : Value} {m : Nat}
theorem HmQ.below (h : HmQ w s gx n cap r c cur L vl m W) (t : Below W.heap.size W W') : HmQ w s gx n cap r c cur L vl m W' :=
  ⟨(t.block _ (lt_of_block h.bx)).trans h.bx, h.rx.below t, row_turn h.row (S := fun _ => False) (Turn.of_below t) (fun _ _ => id), h.old.trans (t.mono (Nat.le_of_lt (lt_of_block h.bx)))⟩
theorem HmQ.q (h : HmQ w s gx n cap r c cur L vl m W) : W.cell? ⟨s, 0, none⟩ = some (.int .i64 r) ∧ W.cell? ⟨s, 1, none⟩ = some (.int .i64 c) ∧ W.cell? ⟨s, 2, none⟩ = some (.slice (some ⟨gx, 0, none⟩) n cap) ∧ W.cell? ⟨s, 3, none⟩ = some (.int .i64 cur) :=
  ⟨by simp [World.cell?, h.bx], by simp [World.cell?, h.bx], by simp [World.cell?, h.bx], by simp [World.cell?, h.bx]⟩
theorem HmQ.fd {gl capl i : Nat} (h : HmQ w s gx n cap r c cur L (.slice (some ⟨gl, 0, none⟩) m capl) m W) {f : Fd} (hm : m = (allL L).length) (hf : (allL L)[i]? = some f) : W.cell? ⟨gl, i * 3, none⟩ = some (.int .i64 f.s) ∧ W.cell? ⟨gl, i * 3 + 1, none⟩ = some (.int .i64 f.k) ∧ W.cell? ⟨gl, i * 3 + 2, none⟩ = some (.int .u8 f.a) := by
  have hi : i < m := by rw [hm]; exact (List.getElem?_eq_some_iff.1 hf).1
  obtain ⟨f0, f1, f2⟩ := rflatF_get _ i f hf
  exact ⟨(h.row.cellAt _ (by omega)).trans f0, (h.row.cellAt _ (by omega)).trans f1, (h.row.cellAt _ (by omega)).trans f2⟩
end
theorem rhome_at {L : List Cl} {i : Nat} {f : Fd} (hf : (allL L)[i]? = some f) (hg : goodF f = true) (hno : ∀ x ∈ (allL L).take i, goodF x = false) : homeL L = mv L.length f.s 1 := by
  unfold homeL
  obtain ⟨h1, h2⟩ := List.getElem?_eq_some_iff.1 hf
  have e : (allL L).find? goodF = some f := by
    rw [← List.take_append_drop i (allL L), List.find?_append, List.find?_eq_none.2 (fun x hx => by rw [hno x hx]; simp), List.drop_eq_getElem_cons h1, h2]
    simp [hg]
  rw [e]
theorem rhome_none {L : List Cl} (hno : ∀ x ∈ allL L, goodF x = false) : homeL L = 0 := by
  unfold homeL
  rw [List.find?_eq_none.2 (fun x hx => by rw [hno x hx]; simp)]
set_option maxRecDepth 100000 in
set_option maxHeartbeats 4000000 in
theorem rhome_any {w : World} {gx n cap : Nat} {L : List Cl} (r c cur : Int) (hx : Rx w gx n cap L) (hbo : BoL L) : Calls Try.prog 13 #[xV r c (.slice (some ⟨gx, 0, none⟩) n cap) cur] w fun e W =>
    e = .returned (.int .i64 (homeL L)) ∧ Below w.heap.size w W := by
  obtain ⟨W0, hW0⟩ : ∃ W0, W0 = w.alloc (.cells #[.int .i64 r, .int .i64 c, .slice (some ⟨gx, 0, none⟩) n cap, .int .i64 cur] 28) := ⟨_, rfl⟩
  have hb0 : W0.heap[w.heap.size]? = some (.cells #[.int .i64 r, .int .i64 c, .slice (some ⟨gx, 0, none⟩) n cap, .int .i64 cur] 28 (0, 0)) := by rw [hW0]; exact heap_alloc_new w _
  have hold : Below w.heap.size w W0 := by rw [hW0]; exact below_alloc _ _
  have hn := hx.most
  have hlen := hx.len
  have hrx0 : Rx W0 gx n cap L := hx.below hold
  have hall := rall_any r c cur hrx0 hbo
  unfold xV at hall
  have HALL := Lib.hid hall
  have HB0 := Lib.hid hb0
  have HOLD := Lib.hid hold
  have HRX := Lib.hid hrx0
  have HW0 := Lib.hid hW0.symm
  have HL := Lib.hid hlen
  have HBO := Lib.hid hbo
  obtain ⟨m, hm⟩ : ∃ m, m = (allL L).length := ⟨_, rfl⟩
  have hmn : m ≤ n := by have := allK_most L (fun _ => L) L.length; rw [hm, ← hlen]; exact this
  have HMM := Lib.hid hm
  clear hW0 hx hbo hlen hm hb0 hrx0 hall hold
  unfold xV
  go_enter Try.func13, Try.ntmps13
  go_wp2_with fail
  rw [HW0.out]
  refine HALL.out.mono ?_
  rintro e w1 ⟨vl, rfl, hrow, hb1⟩
  rw [← HMM.out] at hrow
  obtain ⟨al, capl, hvl, hsl⟩ := rrow_shape hrow
  subst hvl
  have HSL := Lib.hid hsl
  have H1 := Lib.hid (show HmQ w w.heap.size gx n cap r c cur L (.slice al m capl) m w1 from
    ⟨(hb1.block _ (lt_of_block HB0.out)).trans HB0.out, HRX.out.below hb1, hrow, HOLD.out.trans (hb1.mono (Nat.le_of_lt (lt_of_block HB0.out)))⟩)
  clear hrow hb1 hsl HALL HW0
  go_wp2_with fail
  go_loopw [4] (fun p wr => ∃ i : Nat, p = .int .i64 i ∧ i ≤ m ∧ HmQ w w.heap.size gx n cap r c cur L (.slice al m capl) m wr ∧ ∀ f ∈ (allL L).take i, goodF f = false) (fun p _ => m - (intOf p).toNat)
  case atStart => exact ⟨0, rfl, Nat.zero_le _, H1.out, fun f hf => by simp at hf⟩
  case round =>
    obtain ⟨i, rfl, him, hq, hno⟩ := hrel
    have HQ := Lib.hid hq
    have HNO := Lib.hid hno
    clear hno
    by_cases hi1 : i < m
    · have hi2 : (i : Int) < (m : Int) := by omega
      obtain ⟨gl, rfl⟩ := HSL.out (by omega)
      obtain ⟨f, hf⟩ : ∃ f, (allL L)[i]? = some f := ⟨_, List.getElem?_eq_getElem (by rw [← HMM.out]; exact hi1)⟩
      have HF := Lib.hid hf
      have hmem := List.mem_of_getElem? hf
      obtain ⟨e0, e1, e2⟩ := hq.fd HMM.out hf
      obtain ⟨q0, q1, q2, q3⟩ := hq.q
      obtain ⟨p, p0, p1, p2, p3⟩ := mem_allL hmem
      have hbd := begF_bd (L := L) (by omega) p
      have hs0 : 0 ≤ f.s ∧ f.s < n := by rw [p3, begF_s, ← HL.out]; exact ⟨p0, p1⟩
      have hfa : 0 ≤ f.a ∧ f.a ≤ 255 := by rw [p3]; exact begF_a L HBO.out p
      rw [← p3, HL.out] at hbd
      have HBIT := Lib.hid (fun W => Attr.rbit32 f.a W hfa.1 hfa.2)
      have hnxt : ∀ x ∈ (allL L).take (i + 1), x = f ∨ x ∈ (allL L).take i := by
        intro x hx
        obtain ⟨hi3, hi4⟩ := List.getElem?_eq_some_iff.1 hf
        rw [List.take_succ_eq_append_getElem hi3, List.mem_append] at hx
        rcases hx with hx | hx
        · exact .inr hx
        · exact .inl (by rw [List.mem_singleton.1 hx, hi4])
      have HNX := Lib.hid hnxt
      clear hq hf hmem p0 p1 p2 p3 hnxt hfa
      by_cases hk : 0 < f.k
      · cases hpr : Attr.prot f.a with
        | false =>
          have hgd : goodF f = true := by unfold goodF; rw [hpr]; simpa using hk
          have HH := Lib.hid (rhome_at HF.out hgd HNO.out)
          have hw : wrap64 (f.s + 1) = f.s + 1 := IntWalk.wrap64_in _ (by omega)
          have hwi : IntKind.i64.wrap (f.s + 1) = f.s + 1 := IntWalk.i64_in _ (by omega)
          have htm : (f.s + 1).tmod n = homeL L := by rw [HH.out]; unfold mv; rw [if_neg (by have := HL.out; omega), Int.tmod_eq_emod_of_nonneg (by omega), HL.out]
          have hh0 : 0 ≤ homeL L ∧ homeL L < n := by
            rw [← htm, Int.tmod_eq_emod_of_nonneg (by omega)]
            exact ⟨Int.emod_nonneg _ (by omega), Int.emod_lt_of_pos _ (by omega)⟩
          obtain ⟨hm2, hhm⟩ : ∃ y, y = homeL L := ⟨_, rfl⟩
          rw [← hhm] at htm hh0
          have hwh : IntKind.i64.wrap hm2 = hm2 := IntWalk.i64_in _ (by omega)
          have hza : ((n : Int) == 0) = false := by simp; omega
          have hzb : ¬ n = 0 := by omega
          have hzc : ¬ (n : Int) = 0 := by omega
          have HHM := Lib.hid hhm
          rw [hpr] at HBIT
          clear hpr hgd hhm
          go_wp2_with (go_at_call 53; (with_reducible refine (HBIT.out _).mono ?_); rintro e w' ⟨rfl, rfl⟩)
          go_quiet (fail)
          go_wp2
          go_ret
          rw [← HHM.out]
          exact ⟨rfl, HQ.out.below (below_dn _ _) |>.old⟩
        | true =>
          have HGD := Lib.hid (show goodF f = false by unfold goodF; rw [hpr]; simp)
          rw [hpr] at HBIT
          clear hpr
          go_wp2_with (go_at_call 53; (with_reducible refine (HBIT.out _).mono ?_); rintro e w' ⟨rfl, rfl⟩)
          exact ⟨⟨i + 1, by go_num, by omega, HQ.out, fun x hx => (HNX.out x hx).elim (fun e => by rw [e]; exact HGD.out) (HNO.out x)⟩, by simp [intOf]; omega⟩
      · have HGD := Lib.hid (show goodF f = false by unfold goodF; rw [decide_eq_false hk]; rfl)
        go_wp2_with fail
        exact ⟨⟨i + 1, by go_num, by omega, HQ.out, fun x hx => (HNX.out x hx).elim (fun e => by rw [e]; exact HGD.out) (HNO.out x)⟩, by simp [intOf]; omega⟩
    · obtain rfl : m = i := by omega
      have hi2 : ¬ (m : Int) < (m : Int) := by omega
      have HH := Lib.hid (rhome_none (L := L) (by have h := HNO.out; rwa [HMM.out, List.take_length] at h))
      clear hq
      go_wp2
      go_ret
      rw [HH.out]
      exact ⟨rfl, HQ.out.old⟩
end Go.Proofs.Ytgjhboikfbafcaa.Pl
namespace Go.Proofs.Ytgjhboikfbafcaa.Pl
open Go.RowKit Go.Shelf Base
set_option linter.unusedVariables false
set_option linter.unusedSimpArgs false

theorem after_none {L : List Cl} {a : Int} (h : allL L = [] ∨ ¬ (0 ≤ a ∧ a < L.length)) : aftL L a = -1 := by
  unfold aftL
  rcases firstL_cases (L := L) (placesL L.length a L.length) with ⟨h1, _⟩ | ⟨h1, h2⟩
  · exact h1
  · exfalso
    rcases h with h | h
    · have hn := (stg L L.length).none h
      by_cases hr : 0 ≤ firstL L (placesL L.length a L.length) ∧ firstL L (placesL L.length a L.length) < L.length
      · rw [hn _ hr.1 hr.2] at h2; cases h2
      · unfold atL at h2; rw [if_neg hr] at h2; simp [c0] at h2
    · unfold placesL at h1
      rw [if_neg (by simp [inL]; omega)] at h1
      cases h1
theorem after_hit {L : List Cl} {i : Nat} {f : Fd} {a : Int} (h0 : 0 ≤ a) (h1 : a < L.length) (hf : (allL L)[i]? = some f) (hgt : a < f.s) (hno : ∀ x ∈ (allL L).take i, x.s ≤ a) : aftL L a = f.s := by
  have h := stg L L.length
  obtain ⟨p, p1, p2, p3⟩ := h.each i f hf
  have hfs : f.s = p := by rw [p3]; rfl
  refine aft_of h0 h1 (by omega) (by omega) (by rw [hfs]; exact p2) (.inl ⟨hgt, fun y hy1 hy2 => ?_⟩)
  cases i with
  | zero => exact h.ahead f hf y (by omega) hy2
  | succ i =>
    obtain ⟨hl, _⟩ := List.getElem?_eq_some_iff.1 hf
    have hg : (allL L)[i]? = some (allL L)[i] := List.getElem?_eq_getElem (by omega)
    have hm : (allL L)[i] ∈ (allL L).take (i + 1) := by
      rw [List.take_succ_eq_append_getElem (show i < (allL L).length by omega)]
      exact List.mem_append_right _ (List.mem_singleton.2 rfl)
    have hle := hno _ hm
    exact (h.next i _ f hg hf).2 y (by omega) hy2
theorem after_wrap {L : List Cl} {f : Fd} {a : Int} (h0 : 0 ≤ a) (h1 : a < L.length) (hf : (allL L)[0]? = some f) (hno : ∀ x ∈ allL L, x.s ≤ a) : aftL L a = f.s := by
  have h := stg L L.length
  obtain ⟨p, p1, p2, p3⟩ := h.each 0 f hf
  have hfs : f.s = p := by rw [p3]; rfl
  have hpos : 0 < (allL L).length := (List.getElem?_eq_some_iff.1 hf).1
  refine aft_of h0 h1 (by omega) (by omega) (by rw [hfs]; exact p2) (.inr ⟨hno f (List.mem_of_getElem? hf), fun y hy1 hy2 => ?_, h.ahead f hf⟩)
  have hg : (allL L)[(allL L).length - 1]? = some (allL L)[(allL L).length - 1] := List.getElem?_eq_getElem (by omega)
  have hn : (allL L)[(allL L).length - 1 + 1]? = none := List.getElem?_eq_none (by omega)
  have hle := hno _ (List.mem_of_getElem? hg)
  exact h.behind _ _ hg hn y (by omega) hy2
set_option maxRecDepth 100000 in
set_option maxHeartbeats 4000000 in
theorem rafter_any {w : World} {gx n cap : Nat} {L : List Cl} (r c cur a : Int) (hx : Rx w gx n cap L) : Calls Try.prog 25 #[xV r c (.slice (some ⟨gx, 0, none⟩) n cap) cur, .int .i64 a] w fun e W =>
    e = .returned (.int .i64 (aftL L a)) ∧ Below w.heap.size w W := by
  obtain ⟨W0, hW0⟩ : ∃ W0, W0 = w.alloc (.cells #[.int .i64 r, .int .i64 c, .slice (some ⟨gx, 0, none⟩) n cap, .int .i64 cur] 28) := ⟨_, rfl⟩
  have hb0 : W0.heap[w.heap.size]? = some (.cells #[.int .i64 r, .int .i64 c, .slice (some ⟨gx, 0, none⟩) n cap, .int .i64 cur] 28 (0, 0)) := by rw [hW0]; exact heap_alloc_new w _
  have hold : Below w.heap.size w W0 := by rw [hW0]; exact below_alloc _ _
  have hn := hx.most
  have hlen := hx.len
  have hrx0 : Rx W0 gx n cap L := hx.below hold
  have hsta := rstarts_any r c cur hrx0
  unfold xV at hsta
  rw [starts_len] at hsta
  have HSTA := Lib.hid hsta
  have HB0 := Lib.hid hb0
  have HOLD := Lib.hid hold
  have HW0 := Lib.hid hW0.symm
  have HL := Lib.hid hlen
  obtain ⟨m, hm⟩ : ∃ m, m = (allL L).length := ⟨_, rfl⟩
  have hmn : m ≤ n := by have := allK_most L (fun _ => L) L.length; rw [hm, ← hlen]; exact this
  have HMM := Lib.hid hm
  clear hW0 hx hlen hm hb0 hrx0 hsta hold
  unfold xV
  go_enter Try.func25, Try.ntmps25
  go_wp2_with fail
  rw [HW0.out]
  refine HSTA.out.mono ?_
  rintro e w1 ⟨vl, rfl, hrow, hb1⟩
  rw [← HMM.out] at hrow
  obtain ⟨al, capl, hvl, hsl⟩ := rrow_shape hrow
  subst hvl
  have HSL := Lib.hid hsl
  have HROW := Lib.hid hrow
  have hbx := (hb1.block _ (lt_of_block HB0.out)).trans HB0.out
  have B1 := Lib.hid (HOLD.out.trans (hb1.mono (Nat.le_of_lt (lt_of_block HB0.out))))
  obtain ⟨q0, q1, q2, q3, _⟩ := blk4 hbx
  have hsz := lt_of_block hbx
  clear hrow hb1 hsl HSTA HW0 hbx
  by_cases hm0 : m = 0
  · subst hm0
    have HA := Lib.hid (after_none (L := L) (a := a) (.inl (List.length_eq_zero_iff.1 HMM.out.symm)))
    go_wp2_with fail
    go_ret
    rw [HA.out]
    exact ⟨rfl, B1.out⟩
  have hm1 : ((m : Int) == 0) = false := by simp; omega
  have hm2 : ¬ (m : Int) = 0 := by omega
  have HHAS := Lib.hid (rhas_any r c cur a (some ⟨gx, 0, none⟩) n cap w1)
  by_cases hr : 0 ≤ a ∧ a < n
  · rw [decide_eq_true hr] at HHAS
    unfold xV at HHAS
    go_wp2_with (go_at_call 54; (with_reducible refine HHAS.out.mono ?_); rintro e w2 ⟨rfl, hb2⟩; have HR2 := Lib.hid (row_turn HROW.out (S := fun _ => False) (Turn.of_below hb2) (fun _ _ => id)); have B2 := Lib.hid (B1.out.trans (hb2.mono B1.out.size)); clear hb2)
    clear q0 q1 q2 q3 hsz HROW HHAS
    go_loopw [6] (fun p wr => ∃ i : Nat, p = .int .i64 i ∧ i ≤ m ∧ w2 = wr ∧ ∀ f ∈ (allL L).take i, f.s ≤ a) (fun p _ => m - (intOf p).toNat)
    case atStart => exact ⟨0, rfl, Nat.zero_le _, by simp, fun f hf => by simp at hf⟩
    case round =>
      obtain ⟨i, rfl, him, rfl, hno⟩ := hrel
      have HNO := Lib.hid hno
      clear hno
      obtain ⟨gl, rfl⟩ := HSL.out (by omega)
      by_cases hi1 : i < m
      · have hi2 : (i : Int) < (m : Int) := by omega
        obtain ⟨f, hf⟩ : ∃ f, (allL L)[i]? = some f := ⟨_, List.getElem?_eq_getElem (by rw [← HMM.out]; exact hi1)⟩
        have HF := Lib.hid hf
        have lI := (HR2.out.cellAt i (by omega)).trans (starts_get hf)
        clear hf
        by_cases hgt : a < f.s
        · have HA := Lib.hid (after_hit hr.1 (by rw [HL.out]; exact hr.2) HF.out hgt HNO.out)
          go_wp2
          go_ret
          rw [HA.out]
          exact ⟨rfl, B2.out⟩
        · have HGT := Lib.hid hgt
          go_wp2
          go_roundw
          case rel =>
            refine ⟨i + 1, by go_num, by omega, by simp, fun x hx => ?_⟩
            obtain ⟨hi3, hi4⟩ := List.getElem?_eq_some_iff.1 HF.out
            rw [List.take_succ_eq_append_getElem hi3, List.mem_append] at hx
            rcases hx with hx | hx
            · exact HNO.out x hx
            · rw [List.mem_singleton.1 hx, hi4]; have := HGT.out; omega
          case measure => simp [intOf]; omega
      · obtain rfl : m = i := by omega
        have hi2 : ¬ (m : Int) < (m : Int) := by omega
        have hm3 : (0 : Int) < (m : Int) := by omega
        obtain ⟨f, hf⟩ : ∃ f, (allL L)[0]? = some f := ⟨_, List.getElem?_eq_getElem (by rw [← HMM.out]; omega)⟩
        have l0 := (HR2.out.cellAt 0 (by omega)).trans (starts_get hf)
        have HA := Lib.hid (after_wrap hr.1 (by rw [HL.out]; exact hr.2) hf (by have h := HNO.out; rwa [HMM.out, List.take_length] at h))
        clear hf
        go_wp2
        go_ret
        rw [HA.out]
        exact ⟨rfl, B2.out⟩
  · have HA := Lib.hid (after_none (L := L) (a := a) (.inr (by rw [HL.out]; exact hr)))
    rw [decide_eq_false hr] at HHAS
    unfold xV at HHAS
    go_wp2_with (go_at_call 54; (with_reducible refine HHAS.out.mono ?_); rintro e w2 ⟨rfl, hb2⟩; have B2 := Lib.hid (B1.out.trans (hb2.mono B1.out.size)); clear hb2)
    go_ret
    rw [HA.out]
    exact ⟨rfl, B2.out⟩
end Go.Proofs.Ytgjhboikfbafcaa.Pl
namespace Go.Proofs.Ytgjhboikfbafcaa.Pl
open Go.RowKit Go.Shelf Base
set_option linter.unusedVariables false
set_option linter.unusedSimpArgs false

theorem open_form {L : List Cl} {a : Int} (hr : 0 ≤ a ∧ a < L.length) : opnL L a = (!isF L a || (!((ofF L a).s == a) && !Attr.prot (ofF L a).a)) := by
  have hi : inL L.length a = true := by simp [inL]; omega
  unfold opnL isF ofF
  rw [hi, Bool.true_and]
  by_cases hb : befL L a = -1
  · simp [hb]
  · rw [if_neg hb]
    show _ = (!(befL L a != -1) || (!(befL L a == a) && !Attr.prot ((atL L (befL L a)).b % 64)))
    rw [prot_mod]
    simp [hb, bne]
set_option maxRecDepth 100000 in
set_option maxHeartbeats 4000000 in
theorem ropen_any {w : World} {gx n cap : Nat} {L : List Cl} (r c cur a : Int) (hx : Rx w gx n cap L) (hbo : BoL L) : Calls Try.prog 27 #[xV r c (.slice (some ⟨gx, 0, none⟩) n cap) cur, .int .i64 a] w fun e W =>
    e = .returned (.bool (opnL L a)) ∧ Below w.heap.size w W := by
  obtain ⟨W0, hW0⟩ : ∃ W0, W0 = w.alloc (.cells #[.int .i64 r, .int .i64 c, .slice (some ⟨gx, 0, none⟩) n cap, .int .i64 cur] 28) := ⟨_, rfl⟩
  have hb0 : W0.heap[w.heap.size]? = some (.cells #[.int .i64 r, .int .i64 c, .slice (some ⟨gx, 0, none⟩) n cap, .int .i64 cur] 28 (0, 0)) := by rw [hW0]; exact heap_alloc_new w _
  have hold : Below w.heap.size w W0 := by rw [hW0]; exact below_alloc _ _
  have hlen := hx.len
  have HRX := Lib.hid (hx.below hold)
  have hhas := rhas_any r c cur a (some ⟨gx, 0, none⟩) n cap W0
  have HB0 := Lib.hid hb0
  have HOLD := Lib.hid hold
  have HW0 := Lib.hid hW0.symm
  have HBO := Lib.hid hbo
  unfold xV at hhas ⊢
  by_cases hr : 0 ≤ a ∧ a < n
  · rw [decide_eq_true hr] at hhas
    have HHAS := Lib.hid hhas
    have hform := open_form (L := L) (a := a) (by rw [hlen]; exact hr)
    rw [hform]
    obtain ⟨f, hf⟩ : ∃ f, f = ofF L a := ⟨_, rfl⟩
    obtain ⟨bo, hbe⟩ : ∃ bo, bo = isF L a := ⟨_, rfl⟩
    have hfa : 0 ≤ f.a ∧ f.a ≤ 255 := by
      rw [hf]; unfold ofF; split
      · simp [fd0]
      · exact begF_a L hbo _
    rw [← hf, ← hbe]
    have HBIT := Lib.hid (fun W => Attr.rbit32 f.a W hfa.1 hfa.2)
    have HOF := Lib.hid (fun (X : World) (h : Rx X gx n cap L) => rof_any r c cur a h hbo)
    rw [← hf, ← hbe] at HOF
    unfold xV Fd.rval at HOF
    obtain ⟨pr, hpr⟩ : ∃ pr, pr = Attr.prot f.a := ⟨_, rfl⟩
    obtain ⟨ne, hne⟩ : ∃ ne, ne = (f.s == a) := ⟨_, rfl⟩
    rw [← hpr] at HBIT
    rw [← hpr, ← hne]
    have hne2 : (f.s != a) = !ne := by rw [hne]; rfl
    clear hW0 hx hhas hold hb0 hform hf hbe hfa hbo hlen hne hpr
    go_enter Try.func27, Try.ntmps27
    go_wp2_with fail
    rw [HW0.out]
    refine HHAS.out.mono ?_
    rintro e w1 ⟨rfl, hb1⟩
    have hbx := (hb1.block _ (lt_of_block HB0.out)).trans HB0.out
    have B1 := Lib.hid (HOLD.out.trans (hb1.mono (Nat.le_of_lt (lt_of_block HB0.out))))
    have HR1 := Lib.hid (HRX.out.below hb1)
    obtain ⟨q0, q1, q2, q3, _⟩ := blk4 hbx
    clear hb1 HHAS HW0 hbx
    cases bo <;> cases ne <;>
      (go_wp2_with (first
        | (go_at_call 22; (with_reducible refine (HOF.out _ HR1.out).mono ?_); rintro e w2 ⟨rfl, hb2⟩; have B2 := Lib.hid ((B1.out.trans (hb2.mono B1.out.size)).alloc (by have := B1.out.size; have := hb2.size; omega) (.cells #[.int .i64 f.s, .int .i64 f.k, .int .u8 f.a] 40)); clear hb2)
        | (go_at_call 53; (with_reducible refine (HBIT.out _).mono ?_); rintro e w' ⟨rfl, rfl⟩))
       go_ret
       exact ⟨by simp, B2.out⟩)
  · rw [decide_eq_false hr] at hhas
    have HHAS := Lib.hid hhas
    have ho : opnL L a = false := by unfold opnL; rw [show inL L.length a = false by simp [inL]; omega]; rfl
    rw [ho]
    clear hW0 hx hhas hold hb0 hbo
    go_enter Try.func27, Try.ntmps27
    go_wp2_with fail
    rw [HW0.out]
    refine HHAS.out.mono ?_
    rintro e w1 ⟨rfl, hb1⟩
    have B1 := Lib.hid (HOLD.out.trans (hb1.mono (Nat.le_of_lt (lt_of_block HB0.out))))
    clear hb1
    go_wp2
    go_ret
    exact ⟨rfl, B1.out⟩
end Go.Proofs.Ytgjhboikfbafcaa.Pl
namespace Go.Proofs.Ytgjhboikfbafcaa.Pl
open Go.RowKit Go.Shelf Base
set_option linter.unusedVariables false
set_option linter.unusedSimpArgs false

theorem enc_all_ge : ((List.range 256).all fun (k : Nat) => decide ((Utf8.encode (57344 + (k : Int))).data.toList = geL (k : Int))) = true := by decide +kernel
theorem enc_ge (x : Int) (h0 : 0 ≤ x) (h1 : x ≤ 255) : (Utf8.encode (57344 + x)).data.toList = geL x := by
  have := List.all_eq_true.1 enc_all_ge x.toNat (by simp; omega)
  simp only [decide_eq_true_eq] at this
  rw [show ((x.toNat : Nat) : Int) = x by omega] at this
  exact this
set_option maxRecDepth 100000 in
set_option maxHeartbeats 2000000 in
theorem rsign14 (page : Int) (x : Cl) (w : World) (hx : x.Ok) : Calls Try.prog 64 #[.int .i64 page, x.val] w fun e W => e = .returned (.string ⟨(signL page x).toArray⟩) ∧ Below w.heap.size w W := by
  obtain ⟨⟨x0, x1⟩, _, _⟩ := hx
  have hb := below_alloc w (.cells #[.int .u8 x.b, .bool x.ge, .bool x.st, .int .u8 x.li, .int .u8 x.co] 45)
  have hc := heap_alloc_new w (.cells #[.int .u8 x.b, .bool x.ge, .bool x.st, .int .u8 x.li, .int .u8 x.co] 45)
  obtain ⟨b, ge, st, li, co⟩ := x
  dsimp only at x0 x1 hb hc ⊢
  obtain ⟨a0, a1, a2, a3, a4⟩ := cell5 (x := ⟨b, ge, st, li, co⟩) hc
  have HB := Lib.hid hb
  clear hb hc
  cases st with
  | true =>
    go_enter Try.func64, Try.ntmps64
    go_wp2
    go_ret
    exact ⟨by unfold signL; rfl, HB.out⟩
  | false =>
    cases ge with
    | true =>
      have hw : wrap64 (57344 + b) = 57344 + b := IntWalk.wrap64_in _ (by omega)
      go_enter Try.func64, Try.ntmps64
      go_wp2
      go_ret
      refine ⟨?_, HB.out⟩
      have e := enc_ge b x0 x1
      refine congrArg (fun s => Ending.returned (.string s)) (Code.str_eq (s := Utf8.encode (57344 + b)) ?_)
      exact e
    | false =>
      by_cases hg : 64 ≤ b ∧ b ≤ 254
      · have hsb := Code.sgn_bd page b
        obtain ⟨y, hy⟩ : ∃ y, y = Code.sgn page b := ⟨_, rfl⟩
        rw [← hy] at hsb
        obtain ⟨y0, y1⟩ := hsb
        have HY := Lib.hid hy
        have HG := Lib.hid hg
        have HS1 := Lib.hid (Code.seen_any b (w.alloc (.cells #[.int .u8 b, .bool false, .bool false, .int .u8 li, .int .u8 co] 45)) x0 x1)
        rw [decide_eq_true hg] at HS1
        have HS2 := Lib.hid (Code.rsign_any page b (w.alloc (.cells #[.int .u8 b, .bool false, .bool false, .int .u8 li, .int .u8 co] 45)) x0 x1)
        rw [← hy] at HS2
        clear hy hg
        go_enter Try.func64, Try.ntmps64
        go_wp2_with fail
        refine HS1.out.mono ?_
        rintro e w' ⟨rfl, rfl⟩
        go_wp2_with fail
        refine HS2.out.mono ?_
        rintro e w1 ⟨rfl, hb1⟩
        have HB1 := Lib.hid (HB.out.trans (hb1.mono (by simp)))
        clear hb1
        go_wp2_with fail
        go_ret
        refine ⟨?_, HB1.out⟩
        refine congrArg (fun s => Ending.returned (.string s)) (Code.str_eq (s := Utf8.encode y) ?_)
        rw [Code.enc_eq y y0 y1]
        unfold signL Code.piece
        dsimp only
        rw [if_neg (by decide), if_neg (by decide), if_pos HG.out, ← HY.out]
      · have HG := Lib.hid hg
        have HS1 := Lib.hid (Code.seen_any b (w.alloc (.cells #[.int .u8 b, .bool false, .bool false, .int .u8 li, .int .u8 co] 45)) x0 x1)
        rw [decide_eq_false hg] at HS1
        clear hg
        go_enter Try.func64, Try.ntmps64
        go_wp2_with fail
        refine HS1.out.mono ?_
        rintro e w' ⟨rfl, rfl⟩
        go_wp2_with fail
        go_ret
        refine ⟨congrArg (fun s => Ending.returned (.string s)) (Code.str_eq (s := ⟨#[32]⟩) ?_), HB.out⟩
        unfold signL Code.piece
        dsimp only
        rw [if_neg (by decide), if_neg (by decide), if_neg HG.out]
end Go.Proofs.Ytgjhboikfbafcaa.Pl
namespace Go.Proofs.Ytgjhboikfbafcaa.Pl
open Go.RowKit Go.Shelf Base
set_option linter.unusedVariables false
set_option linter.unusedSimpArgs false

theorem signL_le (page : Int) (x : Cl) (h : x.Ok) : (signL page x).length ≤ 4 := by
  unfold signL
  split
  · simp
  · split
    · rw [geL_length x.b h.1.1 h.1.2]; omega
    · exact Code.piece_le page x.b
/-- What is seen of a place of a field. -/
def seeL (page : Int) (L : List Cl) (d : Int) (p : Int) : List UInt8 := if d / 4 % 4 = 3 then [32] else signL page (atL L p)
def seesL (page : Int) (L : List Cl) (d : Int) (P : List Int) : List UInt8 := P.flatMap (seeL page L d)
theorem seesL_le {page : Int} {L : List Cl} (h : OkL L) (d : Int) (P : List Int) : (seesL page L d P).length ≤ P.length * 4 := by
  induction P with
  | nil => simp [seesL]
  | cons p P ih =>
    have h1 : (seeL page L d p).length ≤ 4 := by
      unfold seeL; split
      · simp
      · exact signL_le page _ (atL_ok h p)
    have e : seesL page L d (p :: P) = seeL page L d p ++ seesL page L d P := by simp [seesL]
    rw [e, List.length_append, List.length_cons]; omega
theorem seesL_snoc (page : Int) (L : List Cl) (d : Int) (P : List Int) (p : Int) : seesL page L d (P ++ [p]) = seesL page L d P ++ seeL page L d p := by simp [seesL]
/-- The plane and a field in boxes, and a row of places. -/
structure TxQ (w : World) (s gx n cap : Nat) (r c cur : Int) (L : List Cl) (f : Fd) (vl : Value) (m : Nat) (P : List Int) (W : World) : Prop where
  bx : W.heap[s]? = some (.cells #[.int .i64 r, .int .i64 c, .slice (some ⟨gx, 0, none⟩) n cap, .int .i64 cur] 28 (0, 0))
  fb : W.heap[s + 1]? = some (.cells #[.int .i64 f.s, .int .i64 f.k, .int .u8 f.a] 40 (0, 0))
  rx : Rx W gx n cap L
  row : W.ownsRow 0 3 1 vl m (intsV P)
  old : Below s w W
section
variable {w W W' : World} {s gx n cap : Nat} {r c cur : Int} {L : List Cl} {f : Fd} {vl : Value} {m : Nat} {P : List Int}
theorem TxQ.below (h : TxQ w s gx n cap r c cur L f vl m P W) (t : Below W.heap.size W W') : TxQ w s gx n cap r c cur L f vl m P W' :=
  ⟨(t.block _ (lt_of_block h.bx)).trans h.bx, (t.block _ (lt_of_block h.fb)).trans h.fb, h.rx.below t, row_turn h.row (S := fun _ => False) (Turn.of_below t) (fun _ _ => id), h.old.trans (t.mono (Nat.le_of_lt (lt_of_block h.bx)))⟩
theorem TxQ.drew (h : TxQ w s gx n cap r c cur L f vl m P W) : TxQ w s gx n cap r c cur L f vl m P W.drew := h.below (below_dn W 1)
theorem TxQ.q (h : TxQ w s gx n cap r c cur L f vl m P W) : W.cell? ⟨s, 2, none⟩ = some (.slice (some ⟨gx, 0, none⟩) n cap) ∧ W.cell? ⟨s + 1, 2, none⟩ = some (.int .u8 f.a) :=
  ⟨by simp [World.cell?, h.bx], by simp [World.cell?, h.fb]⟩
end
set_option maxRecDepth 100000 in
set_option maxHeartbeats 4000000 in
theorem rftext_any {w : World} {gx n cap : Nat} {L : List Cl} (r c cur page : Int) (f : Fd) (hx : Rx w gx n cap L) (hok : OkL L) (h0 : 0 ≤ f.s) (h1 : f.s < n) (h2 : 0 ≤ f.k) (h3 : f.k < n) (ha : 0 ≤ f.a ∧ f.a ≤ 255) :
    Calls Try.prog 20 #[xV r c (.slice (some ⟨gx, 0, none⟩) n cap) cur, .int .i64 page, f.rval] w fun e W => e = .returned (.string ⟨(seesL page L f.a (placesL n f.s f.k)).toArray⟩) ∧ Below w.heap.size w W := by
  obtain ⟨W0, hW0⟩ : ∃ W0, W0 = (w.alloc (.cells #[.int .i64 r, .int .i64 c, .slice (some ⟨gx, 0, none⟩) n cap, .int .i64 cur] 28)).alloc (.cells #[.int .i64 f.s, .int .i64 f.k, .int .u8 f.a] 40) := ⟨_, rfl⟩
  have hb0 := boxes (w := w) (o1 := .cells #[.int .i64 r, .int .i64 c, .slice (some ⟨gx, 0, none⟩) n cap, .int .i64 cur] 28) (o2 := .cells #[.int .i64 f.s, .int .i64 f.k, .int .u8 f.a] 40) (w' := W0) (by rw [hW0]; exact Below.refl _ _)
  have hn := hx.most
  have hrx0 : Rx W0 gx n cap L := hx.below (by rw [hW0]; exact (below_alloc _ _).alloc (by simp) _)
  obtain ⟨P, hP⟩ : ∃ P, P = placesL n f.s f.k := ⟨_, rfl⟩
  have hPl : P.length ≤ 4096 := by rw [hP]; unfold placesL; split <;> simp [first] <;> omega
  have hPr : ∀ y ∈ P, 0 ≤ y ∧ y < n := by
    intro y hy
    rw [hP] at hy; unfold placesL at hy; rw [if_pos (by simp [inL]; omega)] at hy
    obtain ⟨i, _, rfl⟩ := List.mem_map.1 hy
    exact ⟨Int.emod_nonneg _ (by omega), Int.emod_lt_of_pos _ (by omega)⟩
  have hpl := rplaces_any r c cur f hrx0 h0 h1 h2 h3
  rw [← hP] at hpl ⊢
  obtain ⟨m, hm⟩ : ∃ m, m = P.length := ⟨_, rfl⟩
  rw [← hm] at hpl hPl
  unfold xV Fd.rval at hpl
  have HPL := Lib.hid hpl
  have HM := Lib.hid hm
  have HPR := Lib.hid hPr
  have HB0 := Lib.hid hb0
  have HRX := Lib.hid hrx0
  have HW0 := Lib.hid hW0.symm
  have HOK := Lib.hid hok
  have HL := Lib.hid hx.len
  have hc0 : W0.cell? ⟨w.heap.size, 0, none⟩ = some (.int .i64 r) := by simp [World.cell?, hb0.1]
  have hc1 : W0.cell? ⟨w.heap.size, 1, none⟩ = some (.int .i64 c) := by simp [World.cell?, hb0.1]
  have hc2 : W0.cell? ⟨w.heap.size, 2, none⟩ = some (.slice (some ⟨gx, 0, none⟩) n cap) := by simp [World.cell?, hb0.1]
  have hc3 : W0.cell? ⟨w.heap.size, 3, none⟩ = some (.int .i64 cur) := by simp [World.cell?, hb0.1]
  have HSH := Lib.hid (fun W => Attr.rshown_any f.a W ha.1 ha.2)
  obtain ⟨d, hd⟩ : ∃ d, d = f.a / 4 % 4 := ⟨_, rfl⟩
  rw [← hd] at HSH
  have HD := Lib.hid hd
  clear hW0 hx hok hb0 hrx0 hpl hm hP hPr h0 h1 h2 h3 ha hd
  unfold xV Fd.rval
  go_enter Try.func20, Try.ntmps20
  go_wp2_with fail
  rw [HW0.out]
  refine HPL.out.mono ?_
  rintro e w1 ⟨vl, rfl, hrow, hb1⟩
  obtain ⟨al, capl, hvl, hsl⟩ := rrow_shape hrow
  subst hvl
  have HSL := Lib.hid hsl
  have H1 := Lib.hid (show TxQ w w.heap.size gx n cap r c cur L f (.slice al m capl) m P w1 from
    ⟨(hb1.block _ (lt_of_block HB0.out.1)).trans HB0.out.1, (hb1.block _ (lt_of_block HB0.out.2.1)).trans HB0.out.2.1, HRX.out.below hb1, hrow, HB0.out.2.2.trans (hb1.mono (Nat.le_of_lt (lt_of_block HB0.out.1)))⟩)
  clear hrow hb1 hsl hc0 hc1 hc2 hc3 HPL HW0
  go_wp2_with fail
  go_loopw [7, 9] (fun v p wr => ∃ (i : Nat) (st : ByteArray), v = .string st ∧ p = .int .i64 i ∧ i ≤ m ∧ st.data.toList = seesL page L f.a (P.take i) ∧ TxQ w w.heap.size gx n cap r c cur L f (.slice al m capl) m P wr) (fun _ p _ => m - (intOf p).toNat)
  case atStart => exact ⟨0, _, rfl, rfl, Nat.zero_le _, rfl, H1.out⟩
  case round =>
    obtain ⟨i, st, rfl, rfl, him, hst, hq⟩ := hrel
    have HQ := Lib.hid hq
    have HST := Lib.hid hst
    by_cases hi1 : i < m
    · have hi2 : (i : Int) < (m : Int) := by omega
      obtain ⟨gl, rfl⟩ := HSL.out (by omega)
      obtain ⟨y, hy⟩ : ∃ y, P[i]? = some y := ⟨_, List.getElem?_eq_getElem (by rw [← HM.out]; exact hi1)⟩
      have hyr := HPR.out y (List.mem_of_getElem? hy)
      have htk : P.take (i + 1) = P.take i ++ [y] := by
        obtain ⟨hi3, hi4⟩ := List.getElem?_eq_some_iff.1 hy
        rw [List.take_succ_eq_append_getElem hi3, hi4]
      have HTK := Lib.hid htk
      have hyv : (intsV P)[i]? = some (.int .i64 y) := by unfold intsV; rw [List.getElem?_map, hy]; rfl
      have c0 := (hq.row.cellAt i (by omega)).trans hyv
      obtain ⟨q2, q3⟩ := hq.q
      have hss : st.size ≤ 16384 := by
        have e2 : st.size = st.data.toList.length := by rw [Array.length_toList]; rfl
        have h4 := seesL_le (page := page) HOK.out f.a (P.take i)
        rw [List.length_take] at h4
        rw [e2, hst]; omega
      have HYV := Lib.hid hyv
      clear hst hy hyv htk
      by_cases hd3 : d = 3
      · have hd4 : (d == 3) = true := by simpa using hd3
        have ha1 : ∀ w : World, (Op.stringOp .add st (⟨#[32]⟩ : ByteArray)).run Try.prog w = .ok (.string (st ++ ⟨#[32]⟩)) w := fun w => run_string_add_sum w _ _ (by have h5 : (⟨#[32]⟩ : ByteArray).size = 1 := rfl; omega)
        have HD3 := Lib.hid hd3
        clear hd3 hq
        go_wp2_with (go_at_call 63; (with_reducible refine (HSH.out _).mono ?_); rintro e w' ⟨rfl, rfl⟩)
        refine ⟨⟨i + 1, _, rfl, by go_num, by omega, ?_, HQ.out⟩, by simp [intOf]; omega⟩
        rw [HTK.out, seesL_snoc, ← HST.out]
        unfold seeL
        rw [if_pos (by rw [← HD.out]; exact HD3.out)]
        simp
      · have hd4 : (d == 3) = false := by simpa using hd3
        have HD3 := Lib.hid hd3
        obtain ⟨j, rfl⟩ : ∃ j : Nat, y = j := ⟨y.toNat, by omega⟩
        obtain ⟨x, hx⟩ : ∃ x, L[j]? = some x := ⟨_, List.getElem?_eq_getElem (by rw [HL.out]; omega)⟩
        have hxok : x.Ok := HOK.out x (List.mem_of_getElem? hx)
        have hat := atL_yes hx
        have hsl := signL_le page x hxok
        have hsg0 : Hid (∀ X, Calls Try.prog 64 #[.int .i64 page, .agg #[.int .u8 x.b, .bool x.ge, .bool x.st, .int .u8 x.li, .int .u8 x.co]] X fun e W => e = .returned (.string ⟨(signL page x).toArray⟩) ∧ Below X.heap.size X W) := Lib.hid fun X => rsign14 page x X hxok
        obtain ⟨sg, hsg⟩ : ∃ sg, sg = ByteArray.mk (signL page x).toArray := ⟨_, rfl⟩
        rw [← hsg] at hsg0
        have HSG := hsg0
        have hgs : sg.size ≤ 4 := by rw [hsg]; simpa [ByteArray.size] using hsl
        have ha1 : ∀ w : World, (Op.stringOp .add st sg).run Try.prog w = .ok (.string (st ++ sg)) w := fun w => run_string_add_sum w _ _ (by omega)
        have hs8 : ∀ X : World, TxQ w w.heap.size gx n cap r c cur L f (.slice (some ⟨gl, 0, none⟩) m capl) m P X → X.cell? ⟨w.heap.size, 2, none⟩ = some (.slice (some ⟨gx, 0, none⟩) n cap) ∧ X.cell? ⟨gl, i, none⟩ = some (.int .i64 j) ∧ X.cell? ⟨gx, j * 5, none⟩ = some (.int .u8 x.b) ∧ X.cell? ⟨gx, j * 5 + 1, none⟩ = some (.bool x.ge) ∧ X.cell? ⟨gx, j * 5 + 2, none⟩ = some (.bool x.st) ∧ X.cell? ⟨gx, j * 5 + 3, none⟩ = some (.int .u8 x.li) ∧ X.cell? ⟨gx, j * 5 + 4, none⟩ = some (.int .u8 x.co) := by
          intro X h
          obtain ⟨k0, k1, k2, k3, k4⟩ := h.rx.five hx
          exact ⟨h.q.1, (h.row.cellAt i (by omega)).trans HYV.out, k0, k1, k2, k3, k4⟩
        have HS8 := Lib.hid hs8
        have HAT := Lib.hid hat
        have HSGG := Lib.hid hsg
        have hjn : (j : Int) < (n : Int) := by omega
        clear hd3 hq hx hxok hat hsl hsg0 hsg hs8
        go_wp2_with (go_at_call 63; (with_reducible refine (HSH.out _).mono ?_); rintro e w' ⟨rfl, rfl⟩)
        refine wp_region_held_drew (S := fun X => X.cell? ⟨w.heap.size, 2, none⟩ = some (.slice (some ⟨gx, 0, none⟩) n cap) ∧ X.cell? ⟨gl, i, none⟩ = some (.int .i64 j) ∧ X.cell? ⟨gx, j * 5, none⟩ = some (.int .u8 x.b) ∧ X.cell? ⟨gx, j * 5 + 1, none⟩ = some (.bool x.ge) ∧ X.cell? ⟨gx, j * 5 + 2, none⟩ = some (.bool x.st) ∧ X.cell? ⟨gx, j * 5 + 3, none⟩ = some (.int .u8 x.li) ∧ X.cell? ⟨gx, j * 5 + 4, none⟩ = some (.int .u8 x.co)) (by kernel_rfl) (HS8.out _ HQ.out.drew) (fun hHeld => ?_)
        refine wpAnyH_take (i := 0) (oi := { dst := some 25, op := Op.move (Operand.tmp 7), type := 9, pos := "ref.go:124", after := #[], guard := none }) (v := ?_) rfl (by kernel_rfl) (by kernel_rfl) (by kernel_rfl) (fun _ _ _ h => h) (Or.inl ⟨by rfl, ?_⟩) (by assumption) ?_
        rotate_left
        focus (intro w hSw; (try dsimp only at hSw); go_simp; try (with_reducible rfl))
        try simp only [Act.put, List.setIfInBounds_toArray, List.set_cons_zero, List.set_cons_succ]
        refine wpAnyH_take (i := 1) (oi := { dst := some 26, op := Op.move (Operand.tmp 1), type := 3, pos := "ref.go:124", after := #[], guard := none }) (v := ?_) rfl (by kernel_rfl) (by kernel_rfl) (by kernel_rfl) (fun _ _ _ h => h) (Or.inl ⟨by rfl, ?_⟩) (by assumption) ?_
        rotate_left
        focus (intro w hSw; (try dsimp only at hSw); go_simp; try (with_reducible rfl))
        try simp only [Act.put, List.setIfInBounds_toArray, List.set_cons_zero, List.set_cons_succ]
        refine wpAnyH_take (i := 2) (oi := { dst := some 27, op := Op.fieldAddr 28 (Operand.tmp 3) 1, type := 0, pos := "ref.go:124", after := #[], guard := none }) (v := ?_) rfl (by kernel_rfl) (by kernel_rfl) (by kernel_rfl) (fun _ _ _ h => h) (Or.inl ⟨by rfl, ?_⟩) (by assumption) ?_
        rotate_left
        focus (intro w hSw; (try dsimp only at hSw); go_simp; try (with_reducible rfl))
        try simp only [Act.put, List.setIfInBounds_toArray, List.set_cons_zero, List.set_cons_succ]
        refine wpAnyH_take (i := 3) (oi := { dst := some 28, op := Op.load 24 (Operand.tmp 27), type := 24, pos := "ref.go:124", after := #[{ on := 2, ground := Ground.data }], guard := none }) (v := ?_) rfl (by kernel_rfl) (by kernel_rfl) (by kernel_rfl) (fun _ _ _ h => h) (Or.inl ⟨by rfl, ?_⟩) (by assumption) ?_
        rotate_left
        focus (intro w hSw; (try dsimp only at hSw); go_simp; try (with_reducible rfl))
        try simp only [Act.put, List.setIfInBounds_toArray, List.set_cons_zero, List.set_cons_succ]
        refine wpAnyH_take (i := 4) (oi := { dst := some 29, op := Op.move (Operand.tmp 8), type := 41, pos := "ref.go:124", after := #[], guard := none }) (v := ?_) rfl (by kernel_rfl) (by kernel_rfl) (by kernel_rfl) (fun _ _ _ h => h) (Or.inl ⟨by rfl, ?_⟩) (by assumption) ?_
        rotate_left
        focus (intro w hSw; (try dsimp only at hSw); go_simp; try (with_reducible rfl))
        try simp only [Act.put, List.setIfInBounds_toArray, List.set_cons_zero, List.set_cons_succ]
        refine wpAnyH_take (i := 5) (oi := { dst := some 30, op := Op.move (Operand.tmp 9), type := 3, pos := "ref.go:124", after := #[], guard := none }) (v := ?_) rfl (by kernel_rfl) (by kernel_rfl) (by kernel_rfl) (fun _ _ _ h => h) (Or.inl ⟨by rfl, ?_⟩) (by assumption) ?_
        rotate_left
        focus (intro w hSw; (try dsimp only at hSw); go_simp; try (with_reducible rfl))
        try simp only [Act.put, List.setIfInBounds_toArray, List.set_cons_zero, List.set_cons_succ]
        refine wpAnyH_take (i := 6) (oi := { dst := some 31, op := Op.indexAddr 41 (Operand.tmp 29) (Operand.tmp 30), type := 0, pos := "ref.go:124", after := #[{ on := 4, ground := Ground.data }, { on := 5, ground := Ground.data }], guard := none }) (v := ?_) rfl (by kernel_rfl) (by kernel_rfl) (by kernel_rfl) (fun _ _ _ h => h) (Or.inl ⟨by rfl, ?_⟩) (by assumption) ?_
        rotate_left
        focus (intro w hSw; (try dsimp only at hSw); go_simp; try (with_reducible rfl))
        try simp only [Act.put, List.setIfInBounds_toArray, List.set_cons_zero, List.set_cons_succ]
        refine wpAnyH_take (i := 7) (oi := { dst := some 32, op := Op.load 3 (Operand.tmp 31), type := 3, pos := "ref.go:124", after := #[{ on := 6, ground := Ground.data }], guard := none }) (v := ?_) rfl (by kernel_rfl) (by kernel_rfl) (by kernel_rfl) (fun _ _ _ h => h) (Or.inl ⟨by rfl, ?_⟩) (by assumption) ?_
        rotate_left
        focus (intro w hSw; (try dsimp only at hSw); go_simp; try (with_reducible rfl))
        try simp only [Act.put, List.setIfInBounds_toArray, List.set_cons_zero, List.set_cons_succ]
        refine wpAnyH_take (i := 8) (oi := { dst := some 33, op := Op.indexAddr 24 (Operand.tmp 28) (Operand.tmp 32), type := 0, pos := "ref.go:124", after := #[{ on := 3, ground := Ground.data }, { on := 7, ground := Ground.data }], guard := none }) (v := ?_) rfl (by kernel_rfl) (by kernel_rfl) (by kernel_rfl) (fun _ _ _ h => h) (Or.inl ⟨by rfl, ?_⟩) (by assumption) ?_
        rotate_left
        focus (intro w hSw; (try dsimp only at hSw); go_simp; try (with_reducible rfl))
        try simp only [Act.put, List.setIfInBounds_toArray, List.set_cons_zero, List.set_cons_succ]
        refine wpAnyH_take (i := 9) (oi := { dst := some 34, op := Op.load 45 (Operand.tmp 33), type := 45, pos := "ref.go:124", after := #[{ on := 8, ground := Ground.data }], guard := none }) (v := ?_) rfl (by kernel_rfl) (by kernel_rfl) (by kernel_rfl) (fun _ _ _ h => h) (Or.inl ⟨by rfl, ?_⟩) (by assumption) ?_
        rotate_left
        focus (intro w hSw; (try dsimp only at hSw); go_simp; try (with_reducible rfl))
        try simp only [Act.put, List.setIfInBounds_toArray, List.set_cons_zero, List.set_cons_succ]
        refine wpAnyH_ready (rs := [10]) (by kernel_rfl) (by simp) (AllReadyH.cons (o := { dst := some 35, op := Op.call { callee := Callee.value (Operand.func 64), args := #[Operand.tmp 26, Operand.tmp 34], argTypes := #[3, 45] }, type := 9, pos := "ref.go:124", after := #[{ on := 1, ground := Ground.data }, { on := 9, ground := Ground.data }], guard := none }) rfl (fun K hK => ?_) AllReadyH.nil)
        go_simp
        go_at_call 64
        refine (HSG.out _).mono ?_
        rintro e w6 ⟨rfl, hb6⟩
        have HQ1 := Lib.hid (HQ.out.drew.below hb6)
        clear hb6
        go_wp2_with fail
        refine hK.out _ _ (HS8.out _ HQ1.out) (fun hHeld => ?_)
        clear hK K
        try simp only [Act.put, List.setIfInBounds_toArray, List.set_cons_zero, List.set_cons_succ]
        refine wpAnyH_take (i := 11) (oi := { dst := some 36, op := Op.binOp BinOp.add 9 (Operand.tmp 25) (Operand.tmp 35) 9, type := 9, pos := "ref.go:124", after := #[{ on := 0, ground := Ground.data }, { on := 10, ground := Ground.data }], guard := none }) (v := ?_) rfl (by kernel_rfl) (by kernel_rfl) (by kernel_rfl) (fun _ _ _ h => h) (Or.inl ⟨by rfl, ?_⟩) (by assumption) ?_
        rotate_left
        focus (intro w hSw; (try dsimp only at hSw); go_simp; try (with_reducible rfl))
        try simp only [Act.put, List.setIfInBounds_toArray, List.set_cons_zero, List.set_cons_succ]
        refine wpAnyH_take (i := 12) (oi := { dst := some 7, op := Op.assign (Operand.tmp 36), type := 9, pos := "ref.go:124", after := #[{ on := 11, ground := Ground.data }, { on := 10, ground := Ground.chain }, { on := 0, ground := Ground.phase }, { on := 1, ground := Ground.phase }, { on := 2, ground := Ground.phase }, { on := 3, ground := Ground.phase }, { on := 4, ground := Ground.phase }, { on := 5, ground := Ground.phase }, { on := 6, ground := Ground.phase }, { on := 7, ground := Ground.phase }, { on := 8, ground := Ground.phase }, { on := 9, ground := Ground.phase }, { on := 10, ground := Ground.phase }, { on := 11, ground := Ground.phase }], guard := none }) (v := ?_) rfl (by kernel_rfl) (by kernel_rfl) (by kernel_rfl) (fun _ _ _ h => h) (Or.inl ⟨by rfl, ?_⟩) (by assumption) ?_
        rotate_left
        focus (intro w hSw; (try dsimp only at hSw); go_simp; try (with_reducible rfl))
        try simp only [Act.put, List.setIfInBounds_toArray, List.set_cons_zero, List.set_cons_succ]
        refine wpAnyH_done (by kernel_rfl) ?_ _
        go_wp2
        refine ⟨⟨i + 1, _, rfl, by go_num, by omega, ?_, HQ1.out⟩, by simp [intOf]; omega⟩
        rw [HTK.out, seesL_snoc, ← HST.out]
        unfold seeL
        rw [if_neg (by rw [← HD.out]; exact HD3.out), HAT.out, HSGG.out]
        simp
    · obtain rfl : m = i := by omega
      have hi2 : ¬ (m : Int) < (m : Int) := by omega
      have hse : st = ⟨(seesL page L f.a P).toArray⟩ := Code.str_eq (by rw [HST.out, HM.out, List.take_length])
      clear hq hst
      go_wp2
      go_ret
      exact ⟨rfl, HQ.out.old⟩
theorem emod_two (n x : Int) (h0 : 0 ≤ x) (h1 : x < 2 * n) : x % n = if x < n then x else x - n := by
  by_cases h : x < n
  · rw [if_pos h, Int.emod_eq_of_lt h0 h]
  · rw [if_neg h, ← Int.sub_emod_right, Int.emod_eq_of_lt (by omega) (by omega)]
theorem inn_of {n f t : Int} (h : 0 ≤ f ∧ f < n ∧ 0 ≤ t ∧ t < n) : inn n f t = true := decide_eq_true h
def firstC (L : List Cl) (f : Int) (k : Nat) : List Cl := (List.range k).map fun i => atL L ((f + (i : Nat)) % (L.length : Int))
theorem firstC_succ (L : List Cl) (f : Int) (k : Nat) : firstC L f (k + 1) = firstC L f k ++ [atL L ((f + (k : Nat)) % (L.length : Int))] := by
  simp [firstC, List.range_succ]
theorem cellsL_first (L : List Cl) (f n : Int) (h0 : 0 ≤ f) (h1 : f < L.length) : cellsL L f n = firstC L f (held L.length n).toNat := by
  unfold cellsL held
  by_cases hn : n ≤ 0
  · rw [if_pos hn]
    have : (if n < 0 then (0 : Int) else if (L.length : Int) < n then (L.length : Int) else n).toNat = 0 := by split <;> (try split) <;> omega
    rw [this]; rfl
  · rw [if_neg hn, if_neg (by omega)]
    have hk : (if (L.length : Int) < n then (L.length : Int) else n) = min n L.length := by
      split <;> omega
    rw [hk]
    obtain ⟨k, hkk⟩ : ∃ k : Int, k = min n L.length := ⟨_, rfl⟩
    have hk1 : 1 ≤ k ∧ k ≤ L.length := by omega
    rw [← hkk]
    have hmv : mv (L.length : Int) f k = (f + k) % (L.length : Int) := by unfold mv; rw [if_neg (by omega)]
    have he := emod_two (L.length : Int) (f + k) (by omega) (by omega)
    have hin : inn (L.length : Int) f (mv L.length f k) = true := inn_of ⟨h0, h1, by rw [hmv]; exact Int.emod_nonneg _ (by omega), by rw [hmv]; exact Int.emod_lt_of_pos _ (by omega)⟩
    have hmany : many (L.length : Int) f (mv L.length f k) = k.toNat := by
      unfold many
      rw [hmv, he]
      split <;> split <;> omega
    unfold betw first
    rw [if_pos hin, hmany, List.map_map]
    rfl
/-- What is seen of all places of a field is its text. -/
theorem sees_text {page : Int} {L : List Cl} {f : Fd} (h0 : 0 ≤ f.s) (h1 : f.s < L.length) (h2 : 0 ≤ f.k) (h3 : f.k < L.length) : seesL page L f.a (placesL L.length f.s f.k) = ftextL page L f := by
  have hp : placesL L.length f.s f.k = first L.length (f.s + 1) f.k.toNat := by unfold placesL; rw [if_pos (by simp [inL]; omega)]
  rw [hp]
  unfold ftextL
  by_cases hd : f.a / 4 % 4 = 3
  · rw [if_pos hd]
    have hall : ∀ P : List Int, seesL page L f.a P = List.replicate P.length 32 := by
      intro P
      induction P with
      | nil => rfl
      | cons p P ih =>
        have e : seesL page L f.a (p :: P) = seeL page L f.a p ++ seesL page L f.a P := by simp [seesL]
        rw [e, ih]; unfold seeL; rw [if_pos hd]; rfl
    rw [hall, first_length]
  · rw [if_neg hd]
    have hmv : mv L.length f.s 1 = (f.s + 1) % (L.length : Int) := by unfold mv; rw [if_neg (by omega)]
    have hm0 : 0 ≤ (f.s + 1) % (L.length : Int) := Int.emod_nonneg _ (by omega)
    have hm1 : (f.s + 1) % (L.length : Int) < L.length := Int.emod_lt_of_pos _ (by omega)
    have hal : seesL page L f.a (first L.length (f.s + 1) f.k.toNat) = textC page (firstC L ((f.s + 1) % (L.length : Int)) f.k.toNat) := by
      unfold seesL textC firstC first
      rw [List.flatMap_map, List.flatMap_map]
      refine congrArg (fun g => (List.range f.k.toNat).flatMap g) (funext fun i => ?_)
      show seeL page L f.a (step L.length (f.s + 1) i) = signL page (atL L (((f.s + 1) % (L.length : Int) + (i : Nat)) % (L.length : Int)))
      unfold seeL
      rw [if_neg hd]
      unfold step
      rw [Int.emod_add_emod]
    rw [hal]
    by_cases hk : 0 < f.k
    · rw [if_pos hk, hmv]
      unfold textL
      rw [cellsL_first L _ f.k hm0 hm1]
      have : held L.length f.k = f.k := by unfold held; rw [if_neg (by omega), if_neg (by omega)]
      rw [this]
    · rw [if_neg hk, show f.k.toNat = 0 by omega]; rfl
end Go.Proofs.Ytgjhboikfbafcaa.Pl
