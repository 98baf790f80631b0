/-
  What a host asks for that wants all: its verbs, and the states behind them.
-/
import Derived.Test.YtimidoaafllnkaaTalkF
namespace Go.Proofs.Ytimidoaafllnkaa.Talk
open Go.RowKit Base Opt
set_option linter.unusedVariables false

def vc (i : Nat) : Int := match i with | 0 => 253 | 1 => 253 | 2 => 251 | 3 => 253 | 4 => 251 | _ => 253
def vo (i : Nat) : Nat := match i with | 0 => 24 | 1 => 25 | 2 => 25 | 3 => 0 | 4 => 0 | _ => 40
theorem vo_lt (i : Nat) : vo i < 256 := by unfold vo; split <;> omega
/-- Behind whatever of these verbs. -/
structure Inv (ext : Bool) (S : Nat → Nat) : Prop where
  le : ∀ j, S j ≤ 1
  ex : ext = false → S 296 = 0
theorem Inv.le5 {ext : Bool} {S : Nat → Nat} (h : Inv ext S) : Le5 S := fun j => by have := h.le j; omega
theorem onS_le1 (m : Bool) (s : Nat) (h : s ≤ 1) : (onS m s).1 ≤ 1 := by
  have : s = 0 ∨ s = 1 := by omega
  rcases this with rfl | rfl <;> cases m <;> simp [onS]
theorem onS_true (s : Nat) (h : s ≤ 1) : (onS true s).1 = 1 := by
  have : s = 0 ∨ s = 1 := by omega
  rcases this with rfl | rfl <;> simp [onS]
theorem inv0 (ext : Bool) : Inv ext S0 := ⟨fun _ => by simp [S0], fun _ => rfl⟩
theorem Inv.upd {ext : Bool} {S : Nat → Nat} (h : Inv ext S) (i v : Nat) (hv : v ≤ 1) (hi : ext = false → i = 296 → v = 0) : Inv ext (upd S i v) := by
  refine ⟨fun j => ?_, fun he => ?_⟩
  · unfold Opt.upd; split
    · exact hv
    · exact h.le j
  · unfold Opt.upd; split
    · next e => exact hi he e.symm
    · exact h.ex he
theorem gotS_251 (M : Nat → Bool) (S : Nat → Nat) (o : Nat) : gotS M S 251 o = (upd S (768 + o) (onS (M (512 + o)) (S (768 + o))).1, sayL false (onS (M (512 + o)) (S (768 + o))).2 o) := rfl
theorem gotS_253 (M : Nat → Bool) (S : Nat → Nat) (o : Nat) : gotS M S 253 o = (upd S (256 + o) (onS (M o) (S (256 + o))).1, sayL true (onS (M o) (S (256 + o))).2 o) := rfl
theorem Inv.step {ext : Bool} {S : Nat → Nat} (h : Inv ext S) (i : Nat) (hi : i < 6) : Inv ext (gotS (M0 ext) S (vc i) (vo i)).1 := by
  have h6 : i = 0 ∨ i = 1 ∨ i = 2 ∨ i = 3 ∨ i = 4 ∨ i = 5 := by omega
  rcases h6 with rfl | rfl | rfl | rfl | rfl | rfl
  · exact h.upd _ _ (onS_le1 _ _ (h.le _)) (fun _ e => absurd e (by decide))
  · exact h.upd _ _ (onS_le1 _ _ (h.le _)) (fun _ e => absurd e (by decide))
  · exact h.upd _ _ (onS_le1 _ _ (h.le _)) (fun _ e => absurd e (by decide))
  · exact h.upd _ _ (onS_le1 _ _ (h.le _)) (fun _ e => absurd e (by decide))
  · exact h.upd _ _ (onS_le1 _ _ (h.le _)) (fun _ e => absurd e (by decide))
  · refine h.upd _ _ (onS_le1 _ _ (h.le _)) (fun he _ => ?_)
    subst he
    show (onS (M0 false 40) (S 296)).1 = 0
    rw [h.ex rfl]
    rfl
theorem sayL_len (ours : Bool) (word o : Nat) : (sayL ours word o).length ≤ 3 := by unfold sayL; split <;> simp
theorem got_len (M : Nat → Bool) (S : Nat → Nat) (i : Nat) (hi : i < 6) : (gotS M S (vc i) (vo i)).2.length ≤ 3 := by
  have h6 : i = 0 ∨ i = 1 ∨ i = 2 ∨ i = 3 ∨ i = 4 ∨ i = 5 := by omega
  rcases h6 with rfl | rfl | rfl | rfl | rfl | rfl <;> exact sayL_len _ _ _
/-- The states behind so many of the verbs, in their order. -/
def SK (ext : Bool) (S : Nat → Nat) : Nat → (Nat → Nat)
  | 0 => S
  | k + 1 => (gotS (M0 ext) (SK ext S k) (vc k) (vo k)).1
theorem SK_inv (ext : Bool) (S : Nat → Nat) (h : Inv ext S) : ∀ k, k ≤ 6 → Inv ext (SK ext S k)
  | 0, _ => h
  | k + 1, hk => (SK_inv ext S h k (by omega)).step k (by omega)
theorem upd_eq (S : Nat → Nat) (i v : Nat) : upd S i v i = v := by simp [upd]
theorem upd_ne (S : Nat → Nat) (i v j : Nat) (h : ¬ j = i) : upd S i v j = S j := by simp [upd, h]
theorem SK_end (ext : Bool) (S : Nat → Nat) (h : Inv ext S) : SK ext S 6 280 = 1 ∧ SK ext S 6 281 = 1 ∧ SK ext S 6 793 = 1 ∧ SK ext S 6 256 = 1 ∧ SK ext S 6 768 = 1 ∧ SK ext S 6 296 = (if ext = true then 1 else 0) := by
  have m24 : M0 ext 24 = true := by cases ext <;> rfl
  have m25 : M0 ext 25 = true := by cases ext <;> rfl
  have m0 : M0 ext 0 = true := by cases ext <;> rfl
  have t25 : M0 ext 537 = true := by cases ext <;> rfl
  have t0 : M0 ext 512 = true := by cases ext <;> rfl
  have m40 : M0 ext 40 = ext := by cases ext <;> rfl
  have e1 : SK ext S 1 = upd S 280 1 := by
    show upd S 280 (onS (M0 ext 24) (S 280)).1 = _
    rw [m24, onS_true _ (h.le _)]
  have e2 : SK ext S 2 = upd (SK ext S 1) 281 1 := by
    show upd (SK ext S 1) 281 (onS (M0 ext 25) (SK ext S 1 281)).1 = _
    rw [m25, onS_true _ ((SK_inv ext S h 1 (by omega)).le _)]
  have e3 : SK ext S 3 = upd (SK ext S 2) 793 1 := by
    show upd (SK ext S 2) 793 (onS (M0 ext 537) (SK ext S 2 793)).1 = _
    rw [t25, onS_true _ ((SK_inv ext S h 2 (by omega)).le _)]
  have e4 : SK ext S 4 = upd (SK ext S 3) 256 1 := by
    show upd (SK ext S 3) 256 (onS (M0 ext 0) (SK ext S 3 256)).1 = _
    rw [m0, onS_true _ ((SK_inv ext S h 3 (by omega)).le _)]
  have e5 : SK ext S 5 = upd (SK ext S 4) 768 1 := by
    show upd (SK ext S 4) 768 (onS (M0 ext 512) (SK ext S 4 768)).1 = _
    rw [t0, onS_true _ ((SK_inv ext S h 4 (by omega)).le _)]
  have e6 : SK ext S 6 = upd (SK ext S 5) 296 (if ext = true then 1 else 0) := by
    show upd (SK ext S 5) 296 (onS (M0 ext 40) (SK ext S 5 296)).1 = _
    rw [m40]
    have h5 := SK_inv ext S h 5 (by omega)
    cases ext
    · rw [h5.ex rfl]; rfl
    · rw [onS_true _ (h5.le _)]; rfl
  refine ⟨?_, ?_, ?_, ?_, ?_, ?_⟩
  · rw [e6, upd_ne _ _ _ _ (by omega), e5, upd_ne _ _ _ _ (by omega), e4, upd_ne _ _ _ _ (by omega), e3, upd_ne _ _ _ _ (by omega), e2, upd_ne _ _ _ _ (by omega), e1, upd_eq]
  · rw [e6, upd_ne _ _ _ _ (by omega), e5, upd_ne _ _ _ _ (by omega), e4, upd_ne _ _ _ _ (by omega), e3, upd_ne _ _ _ _ (by omega), e2, upd_eq]
  · rw [e6, upd_ne _ _ _ _ (by omega), e5, upd_ne _ _ _ _ (by omega), e4, upd_ne _ _ _ _ (by omega), e3, upd_eq]
  · rw [e6, upd_ne _ _ _ _ (by omega), e5, upd_ne _ _ _ _ (by omega), e4, upd_eq]
  · rw [e6, upd_ne _ _ _ _ (by omega), e5, upd_eq]
  · rw [e6, upd_eq]
theorem SK_basic (ext : Bool) (S : Nat → Nat) (h : Inv ext S) : basicB (SK ext S 6) = true ∧ typeOn (SK ext S 6) = true ∧ decide (stOf (SK ext S 6) true 40 = 1) = ext := by
  obtain ⟨h1, h2, h3, h4, h5, h6⟩ := SK_end ext S h
  refine ⟨?_, ?_, ?_⟩
  · unfold basicB
    rw [show stOf (SK ext S 6) true 0 = 1 from h4, show stOf (SK ext S 6) false 0 = 1 from h5, show stOf (SK ext S 6) true 25 = 1 from h2, show stOf (SK ext S 6) false 25 = 1 from h3]
    rfl
  · unfold typeOn
    rw [show stOf (SK ext S 6) true 24 = 1 from h1]
    rfl
  · rw [show stOf (SK ext S 6) true 40 = _ from h6]
    cases ext <;> rfl
/-- A name that was cleaned has no byte that is escaped. -/
theorem told_length (s : ByteArray) : (Iac.tellL 24 (0 :: nums (cleaned s))).length = 6 + (cleaned s).size := by
  have h1 : ∀ L : List Int, (∀ x ∈ L, x ≠ 255) → (Iac.escL L).length = L.length := by
    intro L
    induction L with
    | nil => intro _; rfl
    | cons x L ih =>
      intro h
      have h0 : x ≠ 255 := h x (by simp)
      have h2 := ih fun y hy => h y (by simp [hy])
      have h3 : Iac.escL (x :: L) = (if x = 255 then [255, 255] else [x]) ++ Iac.escL L := by simp [Iac.escL]
      rw [h3, List.length_append, h2, if_neg h0]
      simp; omega
  have h4 : ∀ x ∈ (0 : Int) :: nums (cleaned s), x ≠ 255 := by
    intro x hx
    rcases List.mem_cons.1 hx with rfl | hx
    · omega
    · rw [nums_cleaned] at hx
      obtain ⟨y, _, rfl⟩ := List.mem_map.1 hx
      unfold cl
      split <;> omega
  have h5 := h1 _ h4
  have h6 := h1 [24] (by simp)
  unfold Iac.tellL
  simp only [List.length_append, List.length_cons, List.length_nil, nums_length] at h5 h6 ⊢
  omega
end Go.Proofs.Ytimidoaafllnkaa.Talk
