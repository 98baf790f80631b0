/-
  The walk of CodeUppers: it returns true whatever comes, and leaves all that was in memory as it was.
-/
import Derived.Test.YtpmcpllcfmgpgaaCodeJ
namespace Go.Proofs.Ytpmcpllcfmgpgaa.Code
open Go.RowKit Go.Shelf Go.Maps
set_option linter.unusedVariables false

theorem upr_cap (page b : Int) (b0 : 0 ≤ b) (b1 : b ≤ 255) (h : 97 ≤ sgn page b ∧ sgn page b ≤ 122) : upr page b = b + 64 ∧ sgn page (b + 64) = sgn page b - 32 ∧ upr page (b + 64) = b + 64 ∧ b + 64 ≤ 255 := by
  obtain ⟨h1, h2⟩ := cap_at page b b0 b1 h
  have h3 := sgn_byt page _ h2
  rw [h1] at h3
  refine ⟨by unfold upr; rw [if_pos h], h3, ?_, upr_fits page b b0 b1 h⟩
  unfold upr
  rw [h3, if_neg (by omega)]
theorem upr_stay (page b : Int) (h : ¬ (97 ≤ sgn page b ∧ sgn page b ≤ 122)) : upr page b = b := by
  unfold upr; rw [if_neg h]

set_option maxHeartbeats 1000000 in
theorem codeUppers_walk (page : Int) (hp : (Lit.int .i64 page).wf = true) (b : Int) (hb : (Lit.int .u8 b).wf = true) (w : World) :
    Calls Try.prog 7 #[.int .i64 page, .int .u8 b] w fun e w' => e = .returned (.bool true) ∧ Below w.heap.size w w' := by
  obtain ⟨b0, b1⟩ := u8_bd hb
  clear hp hb
  have hc := upr_cap page b b0 b1
  have hst := upr_stay page b
  have hsb := sgn_bd page b
  obtain ⟨x, hx⟩ : ∃ x, x = sgn page b := ⟨_, rfl⟩
  have HX := Lib.hid hx
  rw [← hx] at hc hst hsb
  clear hx
  obtain ⟨x0, x1⟩ := hsb
  by_cases h : 97 ≤ x ∧ x ≤ 122
  · obtain ⟨e1, e2, e3, e4⟩ := hc h
    have E1 := Lib.hid e1
    have E2 := Lib.hid e2
    have E3 := Lib.hid e3
    obtain ⟨h1, h2⟩ := h
    clear hc hst e1 e2 e3
    go_enter Try.func7, Try.ntmps7
    go_wp2_with fail
    refine (alive1_any _).mono ?_
    rintro e w1 ⟨rfl, B1⟩
    go_wp2_with fail
    refine (to_int (upper_any page b _ b0 b1) E1.out).mono ?_
    rintro e w2 ⟨rfl, hb2⟩
    have B2 := B1.trans (hb2.mono B1.size)
    clear B1 hb2
    go_wp2_with fail
    refine (to_int (sign_any page b _ b0 b1) HX.out.symm).mono ?_
    rintro e w3 ⟨rfl, hb3⟩
    have B3 := B2.trans (hb3.mono B2.size)
    clear B2 hb3
    go_wp2_with fail
    refine (to_int (sign_any page (b + 64) _ (by omega) e4) E2.out).mono ?_
    rintro e w4 ⟨rfl, hb4⟩
    have B4 := B3.trans (hb4.mono B3.size)
    clear B3 hb4
    go_wp2_with fail
    refine (to_int (upper_any page (b + 64) _ (by omega) e4) E3.out).mono ?_
    rintro e w5 ⟨rfl, hb5⟩
    have B5 := B4.trans (hb5.mono B4.size)
    clear B4 hb5
    go_wp2_with fail
    go_ret
    exact ⟨rfl, B5⟩
  · have E1 := Lib.hid (hst h)
    have hh : x < 97 ∨ 122 < x := by omega
    clear hc hst h
    rcases hh with h | h
    · go_enter Try.func7, Try.ntmps7
      go_wp2_with fail
      refine (alive1_any _).mono ?_
      rintro e w1 ⟨rfl, B1⟩
      go_wp2_with fail
      refine (to_int (upper_any page b _ b0 b1) E1.out).mono ?_
      rintro e w2 ⟨rfl, hb2⟩
      have B2 := B1.trans (hb2.mono B1.size)
      clear B1 hb2
      go_wp2_with fail
      refine (to_int (sign_any page b _ b0 b1) HX.out.symm).mono ?_
      rintro e w3 ⟨rfl, hb3⟩
      have B3 := B2.trans (hb3.mono B2.size)
      clear B2 hb3
      go_wp2_with fail
      refine (sign_any page b _ b0 b1).mono ?_
      rintro e w4 ⟨rfl, hb4⟩
      have B4 := B3.trans (hb4.mono B3.size)
      clear B3 hb4
      go_wp2_with fail
      go_ret
      exact ⟨rfl, B4⟩
    · go_enter Try.func7, Try.ntmps7
      go_wp2_with fail
      refine (alive1_any _).mono ?_
      rintro e w1 ⟨rfl, B1⟩
      go_wp2_with fail
      refine (to_int (upper_any page b _ b0 b1) E1.out).mono ?_
      rintro e w2 ⟨rfl, hb2⟩
      have B2 := B1.trans (hb2.mono B1.size)
      clear B1 hb2
      go_wp2_with fail
      refine (to_int (sign_any page b _ b0 b1) HX.out.symm).mono ?_
      rintro e w3 ⟨rfl, hb3⟩
      have B3 := B2.trans (hb3.mono B2.size)
      clear B2 hb3
      go_wp2_with fail
      refine (sign_any page b _ b0 b1).mono ?_
      rintro e w4 ⟨rfl, hb4⟩
      have B4 := B3.trans (hb4.mono B3.size)
      clear B3 hb4
      go_wp2_with fail
      go_ret
      exact ⟨rfl, B4⟩

end Go.Proofs.Ytpmcpllcfmgpgaa.Code
