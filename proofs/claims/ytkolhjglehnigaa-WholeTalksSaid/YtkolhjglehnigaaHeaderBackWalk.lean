/-
  The walk of HeaderBack.
-/
import Derived.Test.YtkolhjglehnigaaHeadE
import Derived.Test.YtkolhjglehnigaaOpenH
import Derived.Test.YtkolhjglehnigaaSame
namespace Go.Proofs.Ytkolhjglehnigaa.Head
open Go.RowKit Base
set_option linter.unusedVariables false

theorem hd_ok {a b c d : Int} (h1 : (Lit.int .u8 a).wf = true) (h2 : (Lit.int .u8 b).wf = true) (h3 : (Lit.int .u8 c).wf = true) (h4 : (Lit.int .u16 d).wf = true) : Hd.Ok ⟨a, b, c, d⟩ := by
  have b1 := u8_bd h1
  have b2 := u8_bd h2
  have b3 := u8_bd h3
  have b4 : 0 ≤ d ∧ d ≤ 65535 := by simp [Lit.wf, IntKind.min, IntKind.max, IntKind.bits, IntKind.signed] at h4; omega
  exact ⟨b1.1, b1.2, b2.1, b2.2, b3.1, b3.2, b4.1, b4.2⟩
theorem same_t (u v : Value) (A : List Int) (w : World) (hA : RowOf .u8 w u A) (hB : RowOf .u8 w v A) (hm : A.length ≤ maxLen) : Calls Try.prog 15 #[u, v] w fun e w' => e = .returned (.bool true) ∧ ∃ n, w' = w.drewN n := by
  have := same_any u v A A w hA hB hm
  simpa using this
theorem hdL_bytes (h : Hd) (hk : h.Ok) (M : List Int) (hM : ∀ x ∈ M, 0 ≤ x ∧ x < 256) : ∀ x ∈ hdL h ++ M, 0 ≤ x ∧ x < 256 := by
  obtain ⟨t0, t1, q0, q1, r0, r1, s0, s1⟩ := hk
  intro x hx
  rcases List.mem_append.1 hx with hx | hx
  · unfold hdL at hx
    simp only [List.mem_cons, List.not_mem_nil, or_false] at hx
    rcases hx with rfl | rfl | rfl | rfl | rfl <;> omega
  · exact hM x hx
theorem head_of (h : Hd) (M : List Int) (hk : h.Ok) : headOf (hdL h ++ M) = h := by
  obtain ⟨a, b, c, d⟩ := h
  show Hd.mk a b c (d / 256 * 256 + d % 256) = _
  rw [show d / 256 * 256 + d % 256 = d by omega]
theorem cut_nil {w : World} {v : Value} {L : List Int} (h : CutRow w v L) : ∀ n c, v = .slice none n c → c = 0 := by
  obtain ⟨_, a, c, rfl, _, h⟩ := h
  intro n c' e
  injection e with e1 e2 e3
  rw [← e3]; exact h e1
/-- The record that answers one is a response of that number. -/
theorem ans_form (h : Hd) (hk : h.Ok) (e : Int) (M : List Int) (ha : ansL h e = some M) : ∃ r c, M = hdL ⟨2, 0, r, h.seq⟩ ++ [c] ∧ (0 ≤ c ∧ c < 256) ∧ (e = 0 ∧ r = 0 ∧ c = 0 ∨ e ≠ 0 ∧ r = 1 ∧ c = codeB e) := by
  unfold ansL at ha
  split at ha
  · cases ha
  · split at ha
    · rename_i h1 h2
      injection ha with ha
      exact ⟨0, 0, by rw [← ha]; rfl, by omega, .inl ⟨h2.1, rfl, rfl⟩⟩
    · split at ha
      · rename_i h1 h2 h3
        injection ha with ha
        exact ⟨1, codeB e, by rw [← ha]; rfl, by unfold codeB; split <;> omega, .inr ⟨h3.1, rfl, rfl⟩⟩
      · cases ha
end Go.Proofs.Ytkolhjglehnigaa.Head
