/-
  Contracts of End, Mark, Dup and String of package typing.
-/
import Derived.Test.YtlcjiffnmpkndaaTyG
import Derived.Test.YtlcjiffnmpkndaaCaF
namespace Go.Proofs.Ytlcjiffnmpkndaa.Pl
open Go.RowKit Go.Shelf Base
set_option linter.unusedVariables false
set_option linter.unusedSimpArgs false

/-- Up to the field's end: the cells, the cursor, the error. -/
def endM (L : List Cl) (cur : Int) : List Cl × Int × Int := (restL L cur, cur, if opnL L cur = true then 0 else 41)
set_option maxHeartbeats 1000000 in
theorem end_any {w : World} {b g : Nat} {r c cur : Int} {L : List Cl} (h : PlAt w b g r c cur L) (hbo : BoL L) :
    Calls Try.prog 54 #[.pointer (some ⟨b, 0, none⟩)] w (PutP w b g r c (endM L cur)) := by
  have HR := Lib.hid (rest_any h cur hbo)
  have HH := Lib.hid h
  obtain ⟨op, hop⟩ : ∃ op, op = opnL L cur := ⟨_, rfl⟩
  have he : endM L cur = (restL L cur, cur, if op = true then 0 else 41) := by unfold endM; rw [hop]
  rw [he]
  rw [← hop] at HR
  clear h hbo hop he
  cases op with
  | true =>
    go_enter Try.func54, Try.ntmps54
    go_wp2_with (first
      | (go_at_call 33; (with_reducible refine (cursor_any HH.out).mono ?_); rintro e w1 ⟨rfl, rfl⟩)
      | (go_at_call 96; (with_reducible refine HR.out.mono ?_); rintro e w2 ⟨rfl, hp, ht⟩; have HP := Lib.hid hp; have HT := Lib.hid ht; clear hp ht))
    go_ret
    exact ⟨by simp, HP.out, HT.out.mono fun k hk => .inr hk⟩
  | false =>
    go_enter Try.func54, Try.ntmps54
    go_wp2_with (first
      | (go_at_call 33; (with_reducible refine (cursor_any HH.out).mono ?_); rintro e w1 ⟨rfl, rfl⟩)
      | (go_at_call 96; (with_reducible refine HR.out.mono ?_); rintro e w2 ⟨rfl, hp, ht⟩; have HP := Lib.hid hp; have HT := Lib.hid ht; clear hp ht))
    go_ret
    exact ⟨by simp, HP.out, HT.out.mono fun k hk => .inr hk⟩
set_option maxHeartbeats 1000000 in
theorem tmark_any {w : World} {b g : Nat} {r c cur : Int} {L : List Cl} (h : PlAt w b g r c cur L) (hbo : BoL L) (ins : Bool) :
    Calls Try.prog 83 #[.pointer (some ⟨b, 0, none⟩), .bool ins] w (PutP w b g r c (putM L cur 30 ins)) := by
  have HR := Lib.hid (put_any h hbo 30 (by decide) ins)
  obtain ⟨R, hR⟩ : ∃ R, R = putM L cur 30 ins := ⟨_, rfl⟩
  rw [← hR] at HR ⊢
  obtain ⟨M, z, e0⟩ := R
  clear h hbo hR
  go_enter Try.func83, Try.ntmps83
  go_wp2_with (go_at_call 49; (with_reducible refine HR.out.mono ?_); rintro e w2 ⟨rfl, hq⟩; have HQ := Lib.hid hq; clear hq)
  go_ret
  exact ⟨rfl, HQ.out⟩
def dupM (L : List Cl) (cur : Int) (ins : Bool) : List Cl × Int × Int :=
  if (putM L cur 28 ins).2.2 = 0 then ((putM L cur 28 ins).1, tabL (putM L cur 28 ins).1 cur, 0) else putM L cur 28 ins
theorem bo_dup {L : List Cl} (h : BoL L) (cur : Int) (ins : Bool) : BoL (dupM L cur ins).1 := by
  unfold dupM
  split
  · exact bo_put h cur 28 ins (by decide)
  · exact bo_put h cur 28 ins (by decide)
set_option maxHeartbeats 2000000 in
theorem dup_any {w : World} {b g : Nat} {r c cur : Int} {L : List Cl} (h : PlAt w b g r c cur L) (hbo : BoL L) (hcur : 0 ≤ cur ∧ cur < L.length) (ins : Bool) :
    Calls Try.prog 82 #[.pointer (some ⟨b, 0, none⟩), .bool ins] w (PutP w b g r c (dupM L cur ins)) := by
  have HR := Lib.hid (put_any h hbo 28 (by decide) ins)
  have hl := put_len L cur 28 ins
  have hb := bo_put hbo cur 28 ins (by decide)
  have hd : dupM L cur ins = if (putM L cur 28 ins).2.2 = 0 then ((putM L cur 28 ins).1, tabL (putM L cur 28 ins).1 cur, 0) else putM L cur 28 ins := rfl
  rw [hd]
  obtain ⟨R, hR⟩ : ∃ R, R = putM L cur 28 ins := ⟨_, rfl⟩
  rw [← hR] at HR hl hb ⊢
  obtain ⟨M, z, e0⟩ := R
  simp only at hl hb ⊢
  have HB := Lib.hid hb
  have HH := Lib.hid h
  have hhas : hasL M cur = true := by unfold hasL; rw [hl]; exact decide_eq_true hcur
  have HHAS := Lib.hid hhas
  clear h hbo hR hd hb hl hhas
  by_cases he : e0 = 0
  · subst he
    rw [if_pos rfl]
    go_enter Try.func82, Try.ntmps82
    go_wp2_with (first
      | (go_at_call 33; (with_reducible refine (cursor_any HH.out).mono ?_); rintro e w1 ⟨rfl, rfl⟩)
      | (go_at_call 49; (with_reducible refine HR.out.mono ?_); rintro e w2 ⟨rfl, hq⟩; have HQ := Lib.hid hq; clear hq)
      | (go_at_call 34; (with_reducible refine (point_k HQ.out.pl cur HHAS.out).mono ?_); rintro e w3 ⟨rfl, hp, ht⟩; have HQ3 := Lib.hid (HQ.out.tb hp ht); clear hp ht)
      | (go_at_call 28; (with_reducible refine (tab_any HQ3.out.pl HB.out).mono ?_); rintro e w4 ⟨rfl, hp, ht⟩; have HQ4 := Lib.hid (HQ3.out.tb hp ht); clear hp ht))
    go_ret
    exact ⟨rfl, HQ4.out⟩
  · rw [if_neg he]
    have he1 : (e0 != 0) = true := by simpa using he
    clear he
    go_enter Try.func82, Try.ntmps82
    go_wp2_with (first
      | (go_at_call 33; (with_reducible refine (cursor_any HH.out).mono ?_); rintro e w1 ⟨rfl, rfl⟩)
      | (go_at_call 49; (with_reducible refine HR.out.mono ?_); rintro e w2 ⟨rfl, hq⟩; have HQ := Lib.hid hq; clear hq))
    go_ret
    exact ⟨rfl, HQ.out⟩
/-! ### String -/
theorem put_err {L : List Cl} {cur y : Int} {ins : Bool} (h : (putM L cur y ins).2.2 ≠ 0) : (putM L cur y ins).1 = L ∧ (putM L cur y ins).2.1 = cur := by
  unfold putM at h ⊢
  split
  · exact ⟨rfl, rfl⟩
  · next h1 =>
    rw [if_neg h1] at h
    split
    · exact ⟨rfl, rfl⟩
    · next h2 =>
      rw [if_neg h2] at h
      split
      · exact ⟨rfl, rfl⟩
      · next h3 => rw [if_neg h3] at h; exact absurd rfl h
/-- Behind bytes: the cells, the cursor, how many were typed, the error. -/
def strM (ins : Bool) : List Int → List Cl → Int → List Cl × Int × Nat × Int
  | [], L, cur => (L, cur, 0, 0)
  | y :: ys, L, cur => if (putM L cur y ins).2.2 = 0 then
      ((strM ins ys (putM L cur y ins).1 (putM L cur y ins).2.1).1, (strM ins ys (putM L cur y ins).1 (putM L cur y ins).2.1).2.1, (strM ins ys (putM L cur y ins).1 (putM L cur y ins).2.1).2.2.1 + 1, (strM ins ys (putM L cur y ins).1 (putM L cur y ins).2.1).2.2.2)
    else (L, cur, 0, (putM L cur y ins).2.2)
theorem strM_cons (ins : Bool) (y : Int) (ys : List Int) (L : List Cl) (cur : Int) : strM ins (y :: ys) L cur = if (putM L cur y ins).2.2 = 0 then
      ((strM ins ys (putM L cur y ins).1 (putM L cur y ins).2.1).1, (strM ins ys (putM L cur y ins).1 (putM L cur y ins).2.1).2.1, (strM ins ys (putM L cur y ins).1 (putM L cur y ins).2.1).2.2.1 + 1, (strM ins ys (putM L cur y ins).1 (putM L cur y ins).2.1).2.2.2)
    else (L, cur, 0, (putM L cur y ins).2.2) := rfl
/-- What is told once so many were typed ahead. -/
def addS (i : Nat) (S : List Cl × Int × Nat × Int) : List Cl × Int × Nat × Int := (S.1, S.2.1, S.2.2.1 + i, S.2.2.2)
theorem str_step {ins : Bool} {ys : List Int} {i : Nat} {y : Int} (hy : ys[i]? = some y) (M : List Cl) (z : Int) :
    addS i (strM ins (ys.drop i) M z) = if (putM M z y ins).2.2 = 0 then addS (i + 1) (strM ins (ys.drop (i + 1)) (putM M z y ins).1 (putM M z y ins).2.1) else (M, z, i, (putM M z y ins).2.2) := by
  obtain ⟨h1, h2⟩ := List.getElem?_eq_some_iff.1 hy
  rw [List.drop_eq_getElem_cons h1, h2, strM_cons]
  split
  · unfold addS; simp only; rw [Nat.add_assoc, Nat.add_comm 1 i]
  · unfold addS; simp
theorem str_end {ins : Bool} {ys : List Int} {i : Nat} (hi : ys.length ≤ i) (M : List Cl) (z : Int) : addS i (strM ins (ys.drop i) M z) = (M, z, i, 0) := by
  rw [List.drop_of_length_le hi]; unfold strM addS; simp
theorem str_le {ins : Bool} : ∀ (ys : List Int) (L : List Cl) (cur : Int), (strM ins ys L cur).2.2.1 ≤ ys.length
  | [], L, cur => Nat.le_refl _
  | y :: ys, L, cur => by
    unfold strM
    split
    · have := str_le ys (putM L cur y ins).1 (putM L cur y ins).2.1 (ins := ins)
      show _ + 1 ≤ ys.length + 1
      omega
    · exact Nat.zero_le _
theorem bo_str {ins : Bool} : ∀ (ys : List Int) (L : List Cl) (cur : Int), (∀ y ∈ ys, 0 ≤ y ∧ y ≤ 255) → BoL L → BoL (strM ins ys L cur).1 ∧ (strM ins ys L cur).1.length = L.length
  | [], L, cur, _, h => ⟨h, rfl⟩
  | y :: ys, L, cur, hy, h => by
    unfold strM
    split
    · obtain ⟨h1, h2⟩ := bo_str ys (putM L cur y ins).1 (putM L cur y ins).2.1 (fun z hz => hy z (List.mem_cons_of_mem _ hz)) (bo_put h cur y ins (hy y (by simp)))
      exact ⟨h1, h2.trans (put_len _ _ _ _)⟩
    · exact ⟨h, rfl⟩
def StrP (w : World) (b g : Nat) (r c : Int) (R : List Cl × Int × Nat × Int) (e : Ending) (W : World) : Prop := e = .returned (.tuple #[.int .i64 R.2.2.1, .int .i64 R.2.2.2]) ∧ TqQ w b g r c R.2.1 R.1 W
/-- A row of bytes stays, where a plane is turned. -/
theorem rowIn_tq {w W : World} {b g : Nat} {r c z : Int} {M : List Cl} {v : Value} {ys : List Int} (h : RowIn (fun k => k ≠ b ∧ k ≠ g) .u8 w v ys) (q : TqQ w b g r c z M W) : RowIn (fun k => k ≠ b ∧ k ≠ g) .u8 W v ys := by
  obtain ⟨a, cap, rfl, hr⟩ := h
  refine ⟨a, cap, rfl, fun hne => ?_⟩
  obtain ⟨k, off, rfl, hS, hlt, hi⟩ := hr hne
  exact ⟨k, off, rfl, hS, Nat.lt_of_lt_of_le hlt q.tn.size, fun i h => (cell_block (q.tn.block k hlt (by rintro (e | e); exact hS.1 e; exact hS.2 e)) _).trans (hi i h)⟩
set_option maxRecDepth 100000 in
set_option maxHeartbeats 4000000 in
theorem string_any {w : World} {b g : Nat} {r c cur : Int} {L : List Cl} (h : PlAt w b g r c cur L) (hbo : BoL L) (v : Value) (ys : List Int) (hr : RowIn (fun k => k ≠ b ∧ k ≠ g) .u8 w v ys) (hy : ∀ y ∈ ys, 0 ≤ y ∧ y ≤ 255) (hm : ys.length ≤ 4096) (ins : Bool) :
    Calls Try.prog 53 #[.pointer (some ⟨b, 0, none⟩), v, .bool ins] w (StrP w b g r c (strM ins ys L cur)) := by
  obtain ⟨a, cap, rfl, hcells⟩ := id hr
  obtain ⟨R, hR⟩ : ∃ R, R = strM ins ys L cur := ⟨_, rfl⟩
  have hR0 : R = addS 0 (strM ins (ys.drop 0) L cur) := by rw [hR]; unfold addS; simp
  rw [← hR]
  have HH := Lib.hid (show TqQ w b g r c cur L w from ⟨h, Turn.refl _ _⟩)
  have HR0 := Lib.hid hR0
  have HBO := Lib.hid hbo
  have HYS := Lib.hid hy
  have HRW := Lib.hid hr
  obtain ⟨n, hn⟩ : ∃ n, n = ys.length := ⟨_, rfl⟩
  have HN := Lib.hid hn
  have HC := Lib.hid hcells
  rw [← hn] at HRW hm ⊢
  have hm2 : (n : Int) ≤ 4096 := by omega
  clear h hbo hR hR0 hy hr hn hcells
  go_enter Try.func53, Try.ntmps53
  go_wp2_with fail
  go_loopw [12] (fun p wr => ∃ (i : Nat) (M : List Cl) (z : Int), p = .int .i64 i ∧ i ≤ n ∧ BoL M ∧ TqQ w b g r c z M wr ∧ Hid (R = addS i (strM ins (ys.drop i) M z))) (fun p _ => n - (intOf p).toNat)
  case atStart => exact ⟨0, L, cur, rfl, Nat.zero_le _, HBO.out, HH.out, HR0⟩
  case round =>
    obtain ⟨i, M, z, rfl, hi, hbm, hq, hRi⟩ := hrel
    have HQ := Lib.hid hq
    have HBM := Lib.hid hbm
    clear hq hbm
    by_cases hin : i < n
    · have hin2 : (i : Int) < (n : Int) := by omega
      have hi0 : (0 : Int) ≤ (i : Int) := by omega
      obtain ⟨y, hy⟩ : ∃ y, ys[i]? = some y := ⟨_, List.getElem?_eq_getElem (by rw [← HN.out]; exact hin)⟩
      have hyb := HYS.out y (List.mem_of_getElem? hy)
      obtain ⟨gb, off, rfl, hS, hlt, hce⟩ := HC.out (by intro e; rw [e] at hy; simp at hy)
      have hcell : wr.cell? ⟨gb, off + i, none⟩ = some (.int .u8 y) := by
        have e1 := (cell_block (HQ.out.tn.block gb hlt (by rintro (e | e); exact hS.1 e; exact hS.2 e)) (off + i)).trans (hce i (by rw [← HN.out]; exact hin))
        rw [hy] at e1; exact e1
      have hst := str_step (ins := ins) hy M z
      have HPU := Lib.hid (put_any HQ.out.pl HBM.out y hyb ins)
      have HB2 := Lib.hid (bo_put HBM.out z y ins hyb)
      have hpe := put_err (L := M) (cur := z) (y := y) (ins := ins)
      obtain ⟨P, hP⟩ : ∃ P, P = putM M z y ins := ⟨_, rfl⟩
      rw [← hP] at HPU hst HB2 hpe
      obtain ⟨M2, z2, e2⟩ := P
      simp only at hst HB2 hpe
      have HST := Lib.hid hst
      have HPE := Lib.hid hpe
      clear hst hy hP hce hpe
      by_cases he : e2 = 0
      · subst he
        go_wp2_with (go_at_call 49; (with_reducible refine HPU.out.mono ?_); rintro e w2 ⟨rfl, hq⟩; have HQ2 := Lib.hid (show TqQ w b g r c z2 M2 w2 from ⟨hq.pl, HQ.out.tn.trans hq.tn⟩); clear hq)
        go_roundw
        case rel => exact ⟨i + 1, M2, z2, by go_num, by omega, HB2.out, HQ2.out, Lib.hid (by rw [hRi.out, HST.out]; simp)⟩
        case measure => simp [intOf]; omega
      · have he1 : (e2 != 0) = true := by simpa using he
        have HRF := Lib.hid (show R = (M, z, i, e2) by rw [hRi.out, HST.out, if_neg he])
        obtain ⟨h1, h2⟩ := HPE.out he
        subst h1 h2
        clear he hRi
        go_wp2_with (go_at_call 49; (with_reducible refine HPU.out.mono ?_); rintro e w2 ⟨rfl, hq⟩; have HQ2 := Lib.hid (show TqQ w b g r c z2 M2 w2 from ⟨hq.pl, HQ.out.tn.trans hq.tn⟩); clear hq)
        go_ret2
        rw [HRF.out]
        exact ⟨rfl, HQ2.out⟩
    · obtain rfl : n = i := by omega
      have HRF := Lib.hid (show R = (M, z, n, 0) by rw [hRi.out, str_end (by rw [← HN.out]; exact Nat.le_refl _)])
      clear hRi
      go_wp2
      go_ret2
      rw [HRF.out]
      exact ⟨rfl, HQ.out⟩
end Go.Proofs.Ytlcjiffnmpkndaa.Pl
