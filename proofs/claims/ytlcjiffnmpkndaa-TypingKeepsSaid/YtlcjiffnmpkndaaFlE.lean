/-
  What may be typed; what is modified.
-/
import Derived.Test.YtlcjiffnmpkndaaFlD
namespace Go.Proofs.Ytlcjiffnmpkndaa.Pl
open Go.RowKit Go.Shelf Base
set_option linter.unusedVariables false
set_option linter.unusedSimpArgs false

section
variable {w : World} {b g : Nat} {r c cur : Int} {L : List Cl}
set_option maxHeartbeats 800000 in
theorem open_any (h : PlAt w b g r c cur L) (a : Int) (hbo : BoL L) : Calls Try.prog 37 #[.pointer (some ⟨b, 0, none⟩), .int .i64 a] w fun e W => e = .returned (.bool (opnL L a)) ∧ Below w.heap.size w W := by
  have hm := h.most
  have hbr := bef_range hm a
  have hN := Lib.hid h.n
  have HH := Lib.hid h
  obtain ⟨z, hz⟩ : ∃ z, z = befL L a := ⟨_, rfl⟩
  have HZ := Lib.hid hz
  rw [← hz] at hbr
  unfold opnL
  rw [← hz]
  obtain ⟨⟨yb, yg, ys, yl, yc⟩, hy⟩ : ∃ y, y = atL L z := ⟨_, rfl⟩
  have hbz := hbo z
  rw [← hy] at hbz ⊢
  simp only at hbz ⊢
  have HY := Lib.hid hy
  obtain ⟨i, hi⟩ : ∃ i, i = inL L.length a := ⟨_, rfl⟩
  rw [← hi]
  have HI := Lib.hid hi
  have hcb := cell_byte yb yg ys yl yc
  obtain ⟨p, hp⟩ : ∃ p, p = Attr.prot yb := ⟨_, rfl⟩
  rw [← hp]
  have HP := Lib.hid hp
  clear h hz hbo hy hi hp
  cases i with
  | false =>
    go_enter Try.func37, Try.ntmps37
    go_wp2_with (go_at_call 80; refine (fhas_any hN.out a).mono ?_; rintro e w1 ⟨he, rfl⟩; rw [← HI.out] at he; subst he)
    go_ret
    exact ⟨by simp, Below.refl _ _⟩
  | true =>
    by_cases hz1 : z = -1
    · subst hz1
      go_enter Try.func37, Try.ntmps37
      go_wp2_with (first
        | (go_at_call 80; refine (fhas_any hN.out a).mono ?_; rintro e w1 ⟨he, rfl⟩; rw [← HI.out] at he; subst he)
        | (go_at_call 72; refine (before_any HH.out a).mono ?_; rintro e w1 ⟨he, hb1⟩; rw [← HZ.out] at he; subst he))
      go_ret
      exact ⟨by simp, hb1⟩
    · have hz3 : (z == -1) = false := by simpa using hz1
      by_cases hza : z = a
      · have hz4 : (z != a) = false := by simpa using hza
        go_enter Try.func37, Try.ntmps37
        go_wp2_with (first
          | (go_at_call 80; refine (fhas_any hN.out a).mono ?_; rintro e w1 ⟨he, rfl⟩; rw [← HI.out] at he; subst he)
          | (go_at_call 72; refine (before_any HH.out a).mono ?_; rintro e w1 ⟨he, hb1⟩; rw [← HZ.out] at he; subst he))
        go_ret
        exact ⟨by first | (simp [hz3, hz4]; done) | (simp [hz3, hz4]; omega), hb1⟩
      · have hz4 : (z != a) = true := by simpa using hza
        go_enter Try.func37, Try.ntmps37
        go_wp2_with (first
          | (go_at_call 80; refine (fhas_any hN.out a).mono ?_; rintro e w1 ⟨he, rfl⟩; rw [← HI.out] at he; subst he)
          | (go_at_call 72; refine (before_any HH.out a).mono ?_; rintro e w1 ⟨he, hb1⟩; rw [← HZ.out] at he; subst he; have H1 := Lib.hid (HH.out.below hb1))
          | (go_at_call 40; refine (at_any H1.out z).mono ?_; rintro e w2 ⟨he, hb2⟩; rw [← HY.out] at he; simp only [Cl.val] at he; subst he)
          | (go_at_call 81; refine (Attr.protected_any yb _ hbz.1 hbz.2).mono ?_; rintro e w3 ⟨he, rfl⟩; rw [← HP.out] at he; subst he))
        go_ret
        exact ⟨by simp [hz3, hz4], hb1.trans (hb2.mono hb1.size)⟩
theorem modify_b {y : Int} (h0 : 0 ≤ y) (h1 : y ≤ 255) (on : Bool) : 0 ≤ Attr.modify y on ∧ Attr.modify y on ≤ 255 := by
  unfold Attr.modify; cases on <;> simp <;> omega
set_option maxHeartbeats 800000 in
theorem fmodify_any (h : PlAt w b g r c cur L) (s : Int) (on : Bool) (hbo : BoL L) : Calls Try.prog 120 #[.pointer (some ⟨b, 0, none⟩), .int .i64 s, .bool on] w fun e W => (∃ v, e = .returned v) ∧ PlAt W b g r c cur (modL L s on) ∧ Turn (At g) w W := by
  have hbs := hbo s
  have HH := Lib.hid h
  unfold modL modC
  obtain ⟨⟨yb, yg, ys, yl, yc⟩, hy⟩ : ∃ y, y = atL L s := ⟨_, rfl⟩
  rw [← hy] at hbs ⊢
  simp only at hbs ⊢
  have HY := Lib.hid hy
  obtain ⟨z, hz⟩ : ∃ z, z = Attr.modify yb on := ⟨_, rfl⟩
  rw [← hz]
  have HZ := Lib.hid hz
  clear h hy hz hbo
  go_enter Try.func120, Try.ntmps120
  go_wp2_with (first
    | (go_at_call 40; refine (at_any HH.out s).mono ?_; rintro e w1 ⟨he, hb1⟩; rw [← HY.out] at he; simp only [Cl.val] at he; subst he; have H1 := Lib.hid (HH.out.below hb1); have B1 := Lib.hid hb1; clear hb1)
    | (go_at_call 46; refine (Attr.modify_any yb _ hbs.1 hbs.2 on).mono ?_; rintro e w2 ⟨he, rfl⟩; rw [← HZ.out] at he; subst he)
    | fail)
  go_at_call 57
  refine (set_any (H1.out.alloc _) s ⟨z, yg, ys, yl, yc⟩).mono ?_
  rintro e w3 ⟨rfl, hp, ht⟩
  have KP := Lib.hid hp
  have KT := Lib.hid ht
  clear hp ht
  go_wp2
  refine bodyPost_end (results_none rfl _ _ _) rfl ⟨⟨_, rfl⟩, KP.out, ?_⟩
  exact (Turn.of_below B1.out).trans ((Turn.of_below (below_alloc w1 _)).trans KT.out)
end
end Go.Proofs.Ytlcjiffnmpkndaa.Pl
