/-
  Contracts of the functions of package code, and of its reference, that compute with one byte or one sign.
-/
import Derived.Test.YtgjhboikfbafcaaCodeA
namespace Go.Proofs.Ytgjhboikfbafcaa.Code
open Go.RowKit
set_option linter.unusedVariables false

theorem ret_int {k : IntKind} {a b : Int} (h : a = b) : Ending.returned (.int k a) = .returned (.int k b) := by rw [h]
theorem ret_bool {a b : Bool} (h : a = b) : Ending.returned (.bool a) = .returned (.bool b) := by rw [h]
theorem to_int {P : Program} {f : FuncId} {args : Array Value} {w : World} {k : IntKind} {x y : Int} {Q : World → Prop} (h : Calls P f args w fun e w' => e = .returned (.int k x) ∧ Q w') (e : x = y) : Calls P f args w fun e w' => e = .returned (.int k y) ∧ Q w' := by
  subst e; exact h
theorem to_bool {P : Program} {f : FuncId} {args : Array Value} {w : World} {x y : Bool} {Q : World → Prop} (h : Calls P f args w fun e w' => e = .returned (.bool x) ∧ Q w') (e : x = y) : Calls P f args w fun e w' => e = .returned (.bool y) ∧ Q w' := by
  subst e; exact h

/-- The sign of a byte. -/
def sgn (page b : Int) : Int := (tabl page)[b.toNat]?.getD 0

theorem p37_bd : ∀ x ∈ p37, 0 ≤ x ∧ x ≤ 255 := by
  have : (p37.all fun x => decide (0 ≤ x ∧ x ≤ 255)) = true := by kernel_rfl
  intro x hx
  have := List.all_eq_true.1 this x hx
  simpa using this
theorem p500_bd : ∀ x ∈ p500, 0 ≤ x ∧ x ≤ 255 := by
  have : (p500.all fun x => decide (0 ≤ x ∧ x ≤ 255)) = true := by kernel_rfl
  intro x hx
  have := List.all_eq_true.1 this x hx
  simpa using this
theorem p1047_bd : ∀ x ∈ p1047, 0 ≤ x ∧ x ≤ 255 := by
  have : (p1047.all fun x => decide (0 ≤ x ∧ x ≤ 255)) = true := by kernel_rfl
  intro x hx
  have := List.all_eq_true.1 this x hx
  simpa using this
theorem tabl_bd (page : Int) : ∀ x ∈ tabl page, 0 ≤ x ∧ x ≤ 255 := by
  unfold tabl
  split
  · exact p500_bd
  · split
    · exact p1047_bd
    · exact p37_bd
theorem sgn_bd (page b : Int) : 0 ≤ sgn page b ∧ sgn page b ≤ 255 := by
  unfold sgn
  rcases h : (tabl page)[b.toNat]? with _ | x
  · simp
  · exact tabl_bd page x (List.mem_of_getElem? h)

theorem graphic_any (b : Int) (w : World) (b0 : 0 ≤ b) (b1 : b ≤ 255) :
    Calls Try.prog 115 #[.int .u8 b] w fun e w' => e = .returned (.bool (decide (64 ≤ b ∧ b ≤ 254))) ∧ w = w' := by
  by_cases h1 : 64 ≤ b <;> by_cases h2 : b ≤ 254 <;>
  · go_enter Try.func115, Try.ntmps115
    go_wp2
    go_ret
    exact ⟨by simp [h1, h2], rfl⟩
theorem seen_any (b : Int) (w : World) (b0 : 0 ≤ b) (b1 : b ≤ 255) :
    Calls Try.prog 95 #[.int .u8 b] w fun e w' => e = .returned (.bool (decide (64 ≤ b ∧ b ≤ 254))) ∧ w = w' := by
  by_cases h1 : 64 ≤ b <;> by_cases h2 : b ≤ 254 <;>
  · go_enter Try.func95, Try.ntmps95
    go_wp2
    go_ret
    exact ⟨by simp [h1, h2], rfl⟩
theorem special_any (b : Int) (w : World) (b0 : 0 ≤ b) (b1 : b ≤ 255) :
    Calls Try.prog 94 #[.int .u8 b] w fun e w' => e = .returned (.int .i32 (57344 + b)) ∧ w = w' := by
  go_enter Try.func94, Try.ntmps94
  go_wp2
  go_ret
  exact ⟨rfl, rfl⟩

/-- A byte as a capital. -/
def upr (page b : Int) : Int := if 97 ≤ sgn page b ∧ sgn page b ≤ 122 then b + 64 else b
theorem upr_bd_all : ((List.range 256).all fun b => (decide (97 ≤ (p37[b]?.getD 0) ∧ (p37[b]?.getD 0) ≤ 122 → b + 64 ≤ 255)) && (decide (97 ≤ (p500[b]?.getD 0) ∧ (p500[b]?.getD 0) ≤ 122 → b + 64 ≤ 255)) && (decide (97 ≤ (p1047[b]?.getD 0) ∧ (p1047[b]?.getD 0) ≤ 122 → b + 64 ≤ 255))) = true := by kernel_rfl
theorem upr_fits (page b : Int) (b0 : 0 ≤ b) (b1 : b ≤ 255) (h : 97 ≤ sgn page b ∧ sgn page b ≤ 122) : b + 64 ≤ 255 := by
  have := List.all_eq_true.1 upr_bd_all b.toNat (by simp; omega)
  simp only [Bool.and_eq_true, decide_eq_true_eq] at this
  obtain ⟨⟨h1, h2⟩, h3⟩ := this
  unfold sgn tabl at h
  split at h
  · have := h2 h; omega
  · split at h
    · have := h3 h; omega
    · have := h1 h; omega

end Go.Proofs.Ytgjhboikfbafcaa.Code
