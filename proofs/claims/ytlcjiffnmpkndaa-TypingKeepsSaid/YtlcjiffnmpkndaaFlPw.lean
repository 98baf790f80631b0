/-
  Contract of Mark of package field.
-/
import Derived.Test.YtlcjiffnmpkndaaFlE
namespace Go.Proofs.Ytlcjiffnmpkndaa.Pl
open Go.RowKit Go.Shelf Base
set_option linter.unusedVariables false
set_option linter.unusedSimpArgs false

def markL (L : List Cl) (a : Int) : List Cl := if befL L a = -1 then L else modL L (befL L a) true
set_option maxHeartbeats 800000 in
theorem mark_any {w : World} {b g : Nat} {r c cur : Int} {L : List Cl} (h : PlAt w b g r c cur L) (a : Int) (hbo : BoL L) : Calls Try.prog 93 #[.pointer (some ⟨b, 0, none⟩), .int .i64 a] w fun e W => e = .returned (.bool (isF L a)) ∧ PlAt W b g r c cur (markL L a) ∧ Turn (At g) w W := by
  have hm := h.most
  have hbr := bef_range hm a
  have HH := Lib.hid h
  obtain ⟨z, hz⟩ : ∃ z, z = befL L a := ⟨_, rfl⟩
  have HZ := Lib.hid hz
  rw [← hz] at hbr
  unfold markL isF
  rw [← hz]
  have HBO := Lib.hid hbo
  clear h hz hbo
  by_cases hz1 : z = -1
  · subst hz1
    go_enter Try.func93, Try.ntmps93
    go_wp2_with (go_at_call 72; refine (before_any HH.out a).mono ?_; rintro e w1 ⟨he, hb1⟩; rw [← HZ.out] at he; subst he)
    go_ret
    exact ⟨by simp, by simpa using HH.out.below hb1, Turn.of_below hb1⟩
  · have hz3 : (z == -1) = false := by simpa using hz1
    rw [if_neg hz1]
    go_enter Try.func93, Try.ntmps93
    go_wp2_with (first
      | (go_at_call 72; refine (before_any HH.out a).mono ?_; rintro e w1 ⟨he, hb1⟩; rw [← HZ.out] at he; subst he; have H1 := Lib.hid (HH.out.below hb1); have B1 := Lib.hid hb1; clear hb1)
      | (go_at_call 120; refine (fmodify_any H1.out z true HBO.out).mono ?_; rintro e w2 ⟨⟨v, rfl⟩, hp, ht⟩; have HP := Lib.hid hp; have HT := Lib.hid ht; clear hp ht))
    go_ret
    exact ⟨by simp [hz3, hz1], HP.out, (Turn.of_below B1.out).trans HT.out⟩
end Go.Proofs.Ytlcjiffnmpkndaa.Pl
