/-
  Contracts of Rest, of unmark and of All of package wipe.
-/
import Derived.Test.YtlcjiffnmpkndaaFlPw
namespace Go.Proofs.Ytlcjiffnmpkndaa.Pl
open Go.RowKit Go.Shelf Base
set_option linter.unusedVariables false
set_option linter.unusedSimpArgs false

/-- How far Rest goes. -/
def endL (L : List Cl) (a : Int) : Int := if isF L a then aftL (markL L a) a else 0
/-- What Rest lets go. -/
def restP (L : List Cl) (a : Int) : List Int := betw (markL L a).length a (endL L a)
def restL (L : List Cl) (a : Int) : List Cl := if opnL L a then fillL (markL L a) (restP L a) c0 else L
def restN (L : List Cl) (a : Int) : Int := if opnL L a then (restP L a).length else 0
set_option maxHeartbeats 800000 in
theorem rest_any {w : World} {b g : Nat} {r c cur : Int} {L : List Cl} (h : PlAt w b g r c cur L) (a : Int) (hbo : BoL L) : Calls Try.prog 96 #[.pointer (some ⟨b, 0, none⟩), .int .i64 a] w fun e W => e = .returned (.tuple #[.int .i64 (restN L a), .bool (opnL L a)]) ∧ PlAt W b g r c cur (restL L a) ∧ Turn (At g) w W := by
  have HO := Lib.hid (open_any h a hbo)
  have HH := Lib.hid h
  have HBO := Lib.hid hbo
  obtain ⟨op, hop⟩ : ∃ op, op = opnL L a := ⟨_, rfl⟩
  obtain ⟨N, hN⟩ : ∃ N, N = restN L a := ⟨_, rfl⟩
  obtain ⟨M, hM⟩ : ∃ M, M = restL L a := ⟨_, rfl⟩
  rw [← hop] at HO ⊢
  rw [← hN, ← hM]
  cases op
  · have hN0 : N = 0 := by rw [hN]; unfold restN; rw [← hop]; rfl
    have hM0 : M = L := by rw [hM]; unfold restL; rw [← hop]; rfl
    subst hN0 hM0
    clear h hbo hop hN hM
    go_enter Try.func96, Try.ntmps96
    go_wp2_with (go_at_call 37; (with_reducible refine HO.out.mono ?_); rintro e w1 ⟨rfl, hb1⟩)
    refine bodyPost_ret (results_tmp2 rfl _ _ _) rfl ?_
    exact ⟨rfl, HH.out.below hb1, Turn.of_below hb1⟩
  · have hN0 : N = ((betw (markL L a).length a (endL L a)).length : Int) := by rw [hN]; unfold restN; rw [← hop]; rfl
    have hM0 : M = fillL (markL L a) (betw (markL L a).length a (endL L a)) c0 := by rw [hM]; unfold restL; rw [← hop]; rfl
    obtain ⟨iv, hiv⟩ : ∃ iv, iv = isF L a := ⟨_, rfl⟩
    obtain ⟨z, hz⟩ : ∃ z, z = endL L a := ⟨_, rfl⟩
    have hz1 : z = if iv = true then aftL (markL L a) a else 0 := by rw [hz, hiv]; rfl
    rw [← hz] at hN0 hM0
    have HIV := Lib.hid hiv
    clear h hbo hop hN hM hz hiv
    cases iv
    · obtain rfl : z = 0 := hz1
      have HN0 := Lib.hid hN0
      have HM0 := Lib.hid hM0
      clear hN0 hM0
      go_enter Try.func96, Try.ntmps96
      go_wp2_with (first
        | (go_at_call 37; (with_reducible refine HO.out.mono ?_); rintro e w1 ⟨rfl, hb1⟩; have H1 := Lib.hid (HH.out.below hb1); have B1 := Lib.hid hb1; clear hb1)
        | (go_at_call 93; (with_reducible refine (mark_any H1.out a HBO.out).mono ?_); rw [← HIV.out]; rintro e w2 ⟨rfl, hp, ht⟩; have HP := Lib.hid hp; have HT := Lib.hid ht; clear hp ht)
        | (go_at_call 126; go_loud (refine (fill_any HP.out a 0 c0).mono ?_); rw [← HN0.out, ← HM0.out]; rintro e w3 ⟨rfl, hp, ht⟩; have HP3 := Lib.hid hp; have HT3 := Lib.hid ht; clear hp ht))
      refine bodyPost_ret (results_tmp2 rfl _ _ _) rfl ?_
      exact ⟨rfl, HP3.out, ((Turn.of_below B1.out).trans HT.out).trans HT3.out⟩
    · replace hz1 : z = aftL (markL L a) a := hz1
      have HZ1 := Lib.hid hz1
      have HN0 := Lib.hid hN0
      have HM0 := Lib.hid hM0
      clear hz1 hN0 hM0
      go_enter Try.func96, Try.ntmps96
      go_wp2_with (first
        | (go_at_call 37; (with_reducible refine HO.out.mono ?_); rintro e w1 ⟨rfl, hb1⟩; have H1 := Lib.hid (HH.out.below hb1); have B1 := Lib.hid hb1; clear hb1)
        | (go_at_call 93; (with_reducible refine (mark_any H1.out a HBO.out).mono ?_); rw [← HIV.out]; rintro e w2 ⟨rfl, hp, ht⟩; have HP := Lib.hid hp; have HT := Lib.hid ht; clear hp ht)
        | (go_at_call 121; (with_reducible refine (after_any HP.out a).mono ?_); rw [← HZ1.out]; rintro e w4 ⟨rfl, hb4⟩; have HP4 := Lib.hid (HP.out.below hb4); have B4 := Lib.hid hb4; clear hb4)
        | (go_at_call 126; go_loud (refine (fill_any HP4.out a z c0).mono ?_); rw [← HN0.out, ← HM0.out]; rintro e w3 ⟨rfl, hp, ht⟩; have HP3 := Lib.hid hp; have HT3 := Lib.hid ht; clear hp ht))
      refine bodyPost_ret (results_tmp2 rfl _ _ _) rfl ?_
      exact ⟨rfl, HP3.out, (((Turn.of_below B1.out).trans HT.out).trans (Turn.of_below B4.out)).trans HT3.out⟩
end Go.Proofs.Ytlcjiffnmpkndaa.Pl
