/-
  Attributes in words: the contracts of the program's Text and of the reference's.
-/
import Derived.Test.YtllfieefmnjplaaAttrA
namespace Go.Proofs.Ytllfieefmnjplaa.Attr
open Go.RowKit Base
set_option linter.unusedVariables false

/-- An attribute's words. -/
def txt (P N : Bool) (s : Int) (M : Bool) : ByteArray :=
  ⟨(((if P = true then [80] else []) : List UInt8) ++ (if N = true then [78] else []) ++ [if s = 0 then 45 else if s = 1 then 43 else if s = 2 then 42 else 33] ++ (if M = true then [77] else [])).toArray⟩
def words (b : Int) : ByteArray := txt (prot b) (nume b) (b / 4 % 4) (modi b)
theorem ret_str {a b : ByteArray} (h : a = b) : Ending.returned (.string a) = .returned (.string b) := by rw [h]
set_option maxHeartbeats 4000000 in
theorem text_any (b : Int) (w : World) (h0 : 0 ≤ b) (h1 : b ≤ 255) : Calls Try.prog 25 #[.int .u8 b] w fun e w' => e = .returned (.string (words b)) ∧ w = w' := by
  have H1 := Lib.hid (protected_any b w h0 h1)
  have H2 := Lib.hid (numeric_any b w h0 h1)
  have H3 := Lib.hid (shown_any b w h0 h1)
  have H4 := Lib.hid (modified_any b w h0 h1)
  have hs : b / 4 % 4 = 0 ∨ b / 4 % 4 = 1 ∨ b / 4 % 4 = 2 ∨ b / 4 % 4 = 3 := by omega
  unfold words
  obtain ⟨P, hP⟩ : ∃ P, P = prot b := ⟨_, rfl⟩
  obtain ⟨N, hN⟩ : ∃ N, N = nume b := ⟨_, rfl⟩
  obtain ⟨M, hM⟩ : ∃ M, M = modi b := ⟨_, rfl⟩
  obtain ⟨s, hss⟩ : ∃ s, s = b / 4 % 4 := ⟨_, rfl⟩
  rw [← hP] at H1 ⊢
  rw [← hN] at H2 ⊢
  rw [← hss] at H3 hs ⊢
  rw [← hM] at H4 ⊢
  clear hP hN hM hss
  rcases hs with rfl | rfl | rfl | rfl <;> cases P <;> cases N <;> cases M
  all_goals
    go_enter Try.func25, Try.ntmps25
    go_wp2_with (first | (go_at_call 14; refine H1.out.mono ?_; rintro e w' ⟨rfl, rfl⟩) | (go_at_call 15; refine H2.out.mono ?_; rintro e w' ⟨rfl, rfl⟩) | (go_at_call 17; refine H3.out.mono ?_; rintro e w' ⟨rfl, rfl⟩) | (go_at_call 19; refine H4.out.mono ?_; rintro e w' ⟨rfl, rfl⟩))
    go_ret
    exact ⟨ret_str (by decide +kernel), rfl⟩
end Go.Proofs.Ytllfieefmnjplaa.Attr
