/-
  The contract of Busy.
-/
import Derived.Test.YtkolhjglehnigaaOptN
namespace Go.Proofs.Ytkolhjglehnigaa.Opt
open Go.RowKit Base
set_option linter.unusedVariables false

/-! ### Is something on its way? -/
def bz (S : Nat → Nat) (off : Nat) : Bool := (List.range 256).any fun o => decide (1 < S (off + o))
def busyB (S : Nat → Nat) : Bool := bz S 256 || bz S 768
theorem bz_true {S : Nat → Nat} {off k : Nat} (hk : k < 256) (h : 1 < S (off + k)) : bz S off = true := by
  unfold bz; rw [List.any_eq_true]; exact ⟨k, by simpa using hk, by simpa using h⟩
theorem bz_false {S : Nat → Nat} {off : Nat} (h : ∀ k, k < 256 → S (off + k) ≤ 1) : bz S off = false := by
  unfold bz
  rw [List.any_eq_false]
  intro k hk
  have := h k (by simpa using hk)
  simp; omega
theorem way_any (x : Nat) (w : World) : Calls Try.prog 93 #[.int .i64 x] w fun e w' => e = .returned (.bool (decide (1 < x))) ∧ w = w' := by
  by_cases h0 : x = 0
  · subst h0
    go_enter Try.func93, Try.ntmps93
    go_wp2
    go_ret
    exact ⟨rfl, rfl⟩
  · by_cases h1 : x = 1
    · subst h1
      go_enter Try.func93, Try.ntmps93
      go_wp2
      go_ret
      exact ⟨rfl, rfl⟩
    · have d0 : ((x : Int) != 0) = true := by simp; omega
      have d1 : ((x : Int) != 1) = true := by simp; omega
      rw [decide_eq_true (show 1 < x by omega)]
      clear h0 h1
      go_enter Try.func93, Try.ntmps93
      go_wp2
      go_ret
      exact ⟨rfl, rfl⟩
/-- The first that is on its way, or none: what counts is which. -/
def Found (S : Nat → Nat) (off : Nat) (w : World) (e : Ending) (w' : World) : Prop := w = w' ∧ ∃ n : Int, e = .returned (.int .i64 n) ∧ (bz S off = true ∧ 0 ≤ n ∨ bz S off = false ∧ n < 0)
set_option maxRecDepth 100000 in
theorem index_any (b off : Nat) (S : Nat → Nat) (w : World) (hc : ∀ k, k < 256 → w.cell? ⟨b, off + k, none⟩ = some (.int .i64 (S (off + k)))) :
    Calls Try.prog 123 #[.slice (some ⟨b, off, none⟩) 256 256, .func (.func 93) #[] #[]] w (Found S off w) := by
  have HC := Lib.hid hc
  clear hc
  go_enter Try.func123, Try.ntmps123
  go_wp2
  go_loop [8] (fun i => ∃ k : Nat, k ≤ 256 ∧ i = .int .i64 k ∧ Hid (∀ j, j < k → S (off + j) ≤ 1)) (fun i => 256 - (intOf i).toNat)
  case atStart => exact ⟨0, by omega, rfl, fun j hj => absurd hj (by omega)⟩
  case round =>
    obtain ⟨k, hk, rfl, hno⟩ := hrel
    by_cases hkn : k < 256
    · have d1 := HC.out k hkn
      obtain ⟨x, hx⟩ : ∃ x, x = S (off + k) := ⟨_, rfl⟩
      rw [← hx] at d1
      have HX := Lib.hid hx
      clear hx
      by_cases hb : 1 < x
      · have HB := Lib.hid hb
        clear hb
        go_wp2_with (go_at_call 93; refine (way_any _ _).mono ?_; rintro e w' ⟨rfl, rfl⟩; rw [decide_eq_true HB.out])
        go_ret
        exact ⟨rfl, k, rfl, .inl ⟨bz_true hkn (by rw [← HX.out]; exact HB.out), by omega⟩⟩
      · have HB := Lib.hid hb
        clear hb
        go_wp2_with (go_at_call 93; refine (way_any _ _).mono ?_; rintro e w' ⟨rfl, rfl⟩; rw [decide_eq_false HB.out])
        go_round
        case rel =>
          refine ⟨k + 1, by omega, by go_num, fun j hj => ?_⟩
          by_cases hjk : j < k
          · exact hno.out j hjk
          · obtain rfl : j = k := by omega
            rw [← HX.out]; have := HB.out; omega
        case measure => simp [intOf]; omega
    · obtain rfl : k = 256 := by omega
      go_wp2
      go_ret
      exact ⟨rfl, -1, rfl, .inr ⟨bz_false hno.out, by omega⟩⟩
theorem contains_any (b off : Nat) (S : Nat → Nat) (w : World) (hc : ∀ k, k < 256 → w.cell? ⟨b, off + k, none⟩ = some (.int .i64 (S (off + k)))) :
    Calls Try.prog 94 #[.slice (some ⟨b, off, none⟩) 256 256, .func (.func 93) #[] #[]] w fun e w' => e = .returned (.bool (bz S off)) ∧ w = w' := by
  have HC := Lib.hid hc
  clear hc
  go_enter Try.func94, Try.ntmps94
  go_wp2_with fail
  refine (index_any b off S w HC.out).mono ?_
  rintro e w' ⟨rfl, n, rfl, (⟨hb, hn⟩ | ⟨hb, hn⟩)⟩
  · have HB := Lib.hid hb
    clear hb
    go_wp2_with fail
    go_ret
    exact ⟨by rw [HB.out]; rfl, rfl⟩
  · have HB := Lib.hid hb
    clear hb
    have hd : decide ((0 : Int) ≤ n) = false := by simpa using hn
    go_wp2_with fail
    go_ret
    exact ⟨by rw [HB.out]; rfl, rfl⟩
section
variable {w : World} {b : Nat} {M : Nat → Bool} {S : Nat → Nat}
theorem busy_any (h : OptAt w b M S) : Calls Try.prog 33 #[.pointer (some ⟨b, 0, none⟩)] w fun e w' => e = .returned (.bool (busyB S)) ∧ w = w' := by
  have h1 : ∀ n k, k < 256 → (w.drewN n).cell? ⟨b, 256 + k, none⟩ = some (.int .i64 (S (256 + k))) := fun n k hk => (h.drewN n).st (256 + k) (by omega) (by omega)
  have h2 : ∀ n k, k < 256 → (w.drewN n).cell? ⟨b, 768 + k, none⟩ = some (.int .i64 (S (768 + k))) := fun n k hk => (h.drewN n).st (768 + k) (by omega) (by omega)
  have H1 := Lib.hid h1
  have H2 := Lib.hid h2
  clear h1 h2 h
  unfold busyB
  obtain ⟨x, hx⟩ : ∃ x, x = bz S 256 := ⟨_, rfl⟩
  obtain ⟨y, hy⟩ : ∃ y, y = bz S 768 := ⟨_, rfl⟩
  have HX := Lib.hid hx
  have HY := Lib.hid hy
  rw [← hx, ← hy]
  clear hx hy
  cases x
  · go_enter Try.func33, Try.ntmps33
    go_wp2_with fail
    refine (contains_any b 256 S _ (H1.out 0)).mono ?_
    rintro e w' ⟨rfl, rfl⟩
    rw [← HX.out]
    go_wp2_with fail
    refine (contains_any b 768 S _ (H2.out 0)).mono ?_
    rintro e w' ⟨rfl, rfl⟩
    rw [← HY.out]
    go_wp2_with fail
    go_ret
    exact ⟨by cases y <;> rfl, rfl⟩
  · go_enter Try.func33, Try.ntmps33
    go_wp2_with fail
    refine (contains_any b 256 S _ (H1.out 0)).mono ?_
    rintro e w' ⟨rfl, rfl⟩
    rw [← HX.out]
    go_wp2_with fail
    go_ret
    exact ⟨by cases y <;> rfl, rfl⟩
end

end Go.Proofs.Ytkolhjglehnigaa.Opt
