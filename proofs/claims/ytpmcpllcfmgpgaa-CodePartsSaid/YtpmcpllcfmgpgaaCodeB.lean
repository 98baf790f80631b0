/-
  Contracts of the functions of package code, and of its reference, that compute with one byte or one sign.
-/
import Derived.Test.YtpmcpllcfmgpgaaCodeA
namespace Go.Proofs.Ytpmcpllcfmgpgaa.Code
open Go.RowKit
set_option linter.unusedVariables false

theorem ret_int {k : IntKind} {a b : Int} (h : a = b) : Ending.returned (.int k a) = .returned (.int k b) := by rw [h]
theorem ret_bool {a b : Bool} (h : a = b) : Ending.returned (.bool a) = .returned (.bool b) := by rw [h]
theorem to_int {P : Program} {f : FuncId} {args : Array Value} {w : World} {k : IntKind} {x y : Int} {Q : World → Prop} (h : Calls P f args w fun e w' => e = .returned (.int k x) ∧ Q w') (e : x = y) : Calls P f args w fun e w' => e = .returned (.int k y) ∧ Q w' := by
  subst e; exact h
theorem to_bool {P : Program} {f : FuncId} {args : Array Value} {w : World} {x y : Bool} {Q : World → Prop} (h : Calls P f args w fun e w' => e = .returned (.bool x) ∧ Q w') (e : x = y) : Calls P f args w fun e w' => e = .returned (.bool y) ∧ Q w' := by
  subst e; exact h

/-- The sign of a byte. -/
def sgn (page b : Int) : Int := (tabl page)[b.toNat]?.getD 0

theorem p37_bd : ∀ x ∈ p37, 0 ≤ x ∧ x ≤ 255 := by
  have : (p37.all fun x => decide (0 ≤ x ∧ x ≤ 255)) = true := by kernel_rfl
  intro x hx
  have := List.all_eq_true.1 this x hx
  simpa using this
theorem p500_bd : ∀ x ∈ p500, 0 ≤ x ∧ x ≤ 255 := by
  have : (p500.all fun x => decide (0 ≤ x ∧ x ≤ 255)) = true := by kernel_rfl
  intro x hx
  have := List.all_eq_true.1 this x hx
  simpa using this
theorem p1047_bd : ∀ x ∈ p1047, 0 ≤ x ∧ x ≤ 255 := by
  have : (p1047.all fun x => decide (0 ≤ x ∧ x ≤ 255)) = true := by kernel_rfl
  intro x hx
  have := List.all_eq_true.1 this x hx
  simpa using this
theorem tabl_bd (page : Int) : ∀ x ∈ tabl page, 0 ≤ x ∧ x ≤ 255 := by
  unfold tabl
  split
  · exact p500_bd
  · split
    · exact p1047_bd
    · exact p37_bd
theorem sgn_bd (page b : Int) : 0 ≤ sgn page b ∧ sgn page b ≤ 255 := by
  unfold sgn
  rcases h : (tabl page)[b.toNat]? with _ | x
  · simp
  · exact tabl_bd page x (List.mem_of_getElem? h)

set_option maxHeartbeats 1000000 in
theorem sign_any (page b : Int) (w : World) (b0 : 0 ≤ b) (b1 : b ≤ 255) :
    Calls Try.prog 19 #[.int .i64 page, .int .u8 b] w fun e w' => e = .returned (.int .i32 (sgn page b)) ∧ Below w.heap.size w w' := by
  have hz := (zero_of_info info_tab).1
  obtain ⟨L, hL⟩ : ∃ L, L = tabl page := ⟨_, rfl⟩
  have hlen : L.length = 256 := by rw [hL]; exact tabl_length page
  have hT : Hid (∀ w, Calls Try.prog 17 #[.int .i64 page] w fun e w' => e = .returned (.agg (tab L)) ∧ Below w.heap.size w w') := by
    intro w; rw [hL]; exact table_any page w
  obtain ⟨x, hx⟩ : ∃ x, x = sgn page b := ⟨_, rfl⟩
  have hg : (tab L)[b.toNat]? = some (.int .i32 x) := by rw [tab_get L b.toNat (by omega), hx, hL]; rfl
  have hX := Lib.hid hx
  have hs := fun w => store_new w z256 L zeros_length hlen
  have hsz : (tab L).size = 256 := by rw [tab_size]; exact hlen
  clear hL hx hlen
  rw [← hX.out]
  go_enter Try.func19, Try.ntmps19
  go_wp2_with fail
  refine (hT.out _).mono ?_
  rintro e w1 ⟨rfl, hb1⟩
  go_wp2_with fail


  go_ret
  exact ⟨rfl, hb1.alloc hb1.size _⟩

theorem graphic_any (b : Int) (w : World) (b0 : 0 ≤ b) (b1 : b ≤ 255) :
    Calls Try.prog 23 #[.int .u8 b] w fun e w' => e = .returned (.bool (decide (64 ≤ b ∧ b ≤ 254))) ∧ w = w' := by
  by_cases h1 : 64 ≤ b <;> by_cases h2 : b ≤ 254 <;>
  · go_enter Try.func23, Try.ntmps23
    go_wp2
    go_ret
    exact ⟨by simp [h1, h2], rfl⟩
theorem seen_any (b : Int) (w : World) (b0 : 0 ≤ b) (b1 : b ≤ 255) :
    Calls Try.prog 24 #[.int .u8 b] w fun e w' => e = .returned (.bool (decide (64 ≤ b ∧ b ≤ 254))) ∧ w = w' := by
  by_cases h1 : 64 ≤ b <;> by_cases h2 : b ≤ 254 <;>
  · go_enter Try.func24, Try.ntmps24
    go_wp2
    go_ret
    exact ⟨by simp [h1, h2], rfl⟩
theorem digit_any (b : Int) (w : World) (b0 : 0 ≤ b) (b1 : b ≤ 255) :
    Calls Try.prog 22 #[.int .u8 b] w fun e w' => e = .returned (.bool (decide (240 ≤ b ∧ b ≤ 249))) ∧ w = w' := by
  by_cases h1 : 240 ≤ b <;> by_cases h2 : b ≤ 249 <;>
  · go_enter Try.func22, Try.ntmps22
    go_wp2
    go_ret
    exact ⟨by simp [h1, h2], rfl⟩
theorem special_any (b : Int) (w : World) (b0 : 0 ≤ b) (b1 : b ≤ 255) :
    Calls Try.prog 25 #[.int .u8 b] w fun e w' => e = .returned (.int .i32 (57344 + b)) ∧ w = w' := by
  go_enter Try.func25, Try.ntmps25
  go_wp2
  go_ret
  exact ⟨rfl, rfl⟩

/-- A byte as a capital. -/
def upr (page b : Int) : Int := if 97 ≤ sgn page b ∧ sgn page b ≤ 122 then b + 64 else b
theorem upr_bd_all : ((List.range 256).all fun b => (decide (97 ≤ (p37[b]?.getD 0) ∧ (p37[b]?.getD 0) ≤ 122 → b + 64 ≤ 255)) && (decide (97 ≤ (p500[b]?.getD 0) ∧ (p500[b]?.getD 0) ≤ 122 → b + 64 ≤ 255)) && (decide (97 ≤ (p1047[b]?.getD 0) ∧ (p1047[b]?.getD 0) ≤ 122 → b + 64 ≤ 255))) = true := by kernel_rfl
theorem upr_fits (page b : Int) (b0 : 0 ≤ b) (b1 : b ≤ 255) (h : 97 ≤ sgn page b ∧ sgn page b ≤ 122) : b + 64 ≤ 255 := by
  have := List.all_eq_true.1 upr_bd_all b.toNat (by simp; omega)
  simp only [Bool.and_eq_true, decide_eq_true_eq] at this
  obtain ⟨⟨h1, h2⟩, h3⟩ := this
  unfold sgn tabl at h
  split at h
  · have := h2 h; omega
  · split at h
    · have := h3 h; omega
    · have := h1 h; omega

set_option maxHeartbeats 1000000 in
theorem upper_any (page b : Int) (w : World) (b0 : 0 ≤ b) (b1 : b ≤ 255) :
    Calls Try.prog 20 #[.int .i64 page, .int .u8 b] w fun e w' => e = .returned (.int .u8 (upr page b)) ∧ Below w.heap.size w w' := by
  have hf := upr_fits page b b0 b1
  have hd : Hid (upr page b = if 97 ≤ sgn page b ∧ sgn page b ≤ 122 then b + 64 else b) := rfl
  obtain ⟨x, hx⟩ : ∃ x, x = sgn page b := ⟨_, rfl⟩
  have hX := Lib.hid hx
  rw [← hx] at hf hd
  clear hx
  by_cases h1 : x < 97
  · have e1 : Hid (upr page b = b) := by rw [hd.out, if_neg (by omega)]; exact rfl
    clear hf
    go_enter Try.func20, Try.ntmps20
    go_wp2_with fail
    refine (to_int (sign_any page b _ b0 b1) hX.out.symm).mono ?_
    rintro e w1 ⟨rfl, hb1⟩
    go_wp2_with fail
    go_ret
    exact ⟨ret_int e1.out.symm, hb1⟩
  · by_cases h2 : x ≤ 122
    · have e1 : Hid (upr page b = b + 64) := by rw [hd.out, if_pos (by omega)]; exact rfl
      have e2 := hf (by omega)
      clear hf
      go_enter Try.func20, Try.ntmps20
      go_wp2_with fail
      refine (to_int (sign_any page b _ b0 b1) hX.out.symm).mono ?_
      rintro e w1 ⟨rfl, hb1⟩
      go_wp2_with fail
      go_ret
      exact ⟨ret_int e1.out.symm, hb1⟩
    · have e1 : Hid (upr page b = b) := by rw [hd.out, if_neg (by omega)]; exact rfl
      clear hf
      go_enter Try.func20, Try.ntmps20
      go_wp2_with fail
      refine (to_int (sign_any page b _ b0 b1) hX.out.symm).mono ?_
      rintro e w1 ⟨rfl, hb1⟩
      go_wp2_with fail
      go_ret
      exact ⟨ret_int e1.out.symm, hb1⟩

end Go.Proofs.Ytpmcpllcfmgpgaa.Code
