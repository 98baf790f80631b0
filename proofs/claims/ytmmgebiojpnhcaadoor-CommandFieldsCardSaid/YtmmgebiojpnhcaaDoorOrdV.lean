/-
  Which orders may be written: what check asks.
-/
import Derived.Test.YtmmgebiojpnhcaaDoorOrdM
import Derived.Test.YtmmgebiojpnhcaaDoorDigB
namespace Go.Proofs.YtmmgebiojpnhcaaDoor.Ord
open Go.RowKit Base
set_option linter.unusedVariables false
set_option linter.unusedSimpArgs false

def hasA (k : Int) : Bool := decide (k = 17 ∨ k = 18 ∨ k = 60)
def hasB (k : Int) : Bool := decide (k = 29 ∨ k = 60 ∨ k = 8)
def hasP (k : Int) : Bool := decide (k = 41 ∨ k = 44 ∨ k = 40)
def known (k : Int) : Bool := decide (k = 0 ∨ k = 5 ∨ k = 8 ∨ k = 17 ∨ k = 18 ∨ k = 19 ∨ k = 29 ∨ k = 40 ∨ k = 41 ∨ k = 44 ∨ k = 60)
def nameB (k : Int) : ByteArray :=
  if k = 0 then ⟨#[68, 65, 84, 65]⟩ else if k = 5 then ⟨#[80, 84]⟩ else if k = 8 then ⟨#[71, 69]⟩ else if k = 17 then ⟨#[83, 66, 65]⟩ else if k = 18 then ⟨#[69, 85, 65]⟩ else if k = 19 then ⟨#[73, 67]⟩
  else if k = 29 then ⟨#[83, 70]⟩ else if k = 40 then ⟨#[83, 65]⟩ else if k = 41 then ⟨#[83, 70, 69]⟩ else if k = 44 then ⟨#[77, 70]⟩ else if k = 60 then ⟨#[82, 65]⟩ else ⟨#[]⟩
theorem kind_cases (k : Int) : k = 0 ∨ k = 5 ∨ k = 8 ∨ k = 17 ∨ k = 18 ∨ k = 19 ∨ k = 29 ∨ k = 40 ∨ k = 41 ∨ k = 44 ∨ k = 60 ∨ ((k == 0) = false ∧ (k == 5) = false ∧ (k == 8) = false ∧ (k == 17) = false ∧ (k == 18) = false ∧ (k == 19) = false ∧ (k == 29) = false ∧ (k == 40) = false ∧ (k == 41) = false ∧ (k == 44) = false ∧ (k == 60) = false) := by simp; omega
set_option maxHeartbeats 4000000 in
theorem hasAddr_any (k : Int) (w : World) : Calls Tryd.prog 68 #[.int .u8 k] w fun e w' => e = .returned (.bool (hasA k)) ∧ w = w' := by
  rcases kind_cases k with rfl | rfl | rfl | rfl | rfl | rfl | rfl | rfl | rfl | rfl | rfl | ⟨_, _, _, h1, h2, _, _, _, _, _, h3⟩
  all_goals
    go_enter Tryd.func68, Tryd.ntmps68
    go_wp2_with fail
    go_ret
    exact ⟨ret_bool (by simp_all [hasA]), rfl⟩
set_option maxHeartbeats 4000000 in
theorem hasByte_any (k : Int) (w : World) : Calls Tryd.prog 75 #[.int .u8 k] w fun e w' => e = .returned (.bool (hasB k)) ∧ w = w' := by
  rcases kind_cases k with rfl | rfl | rfl | rfl | rfl | rfl | rfl | rfl | rfl | rfl | rfl | ⟨_, _, h1, _, _, _, h2, _, _, _, h3⟩
  all_goals
    go_enter Tryd.func75, Tryd.ntmps75
    go_wp2_with fail
    go_ret
    exact ⟨ret_bool (by simp_all [hasB]), rfl⟩
set_option maxHeartbeats 4000000 in
theorem hasPairs_any (k : Int) (w : World) : Calls Tryd.prog 76 #[.int .u8 k] w fun e w' => e = .returned (.bool (hasP k)) ∧ w = w' := by
  rcases kind_cases k with rfl | rfl | rfl | rfl | rfl | rfl | rfl | rfl | rfl | rfl | rfl | ⟨_, _, _, _, _, _, _, h1, h2, h3, _⟩
  all_goals
    go_enter Tryd.func76, Tryd.ntmps76
    go_wp2_with fail
    go_ret
    exact ⟨ret_bool (by simp_all [hasP]), rfl⟩
set_option maxHeartbeats 4000000 in
theorem name_any (k : Int) (w : World) : Calls Tryd.prog 63 #[.int .u8 k] w fun e w' => e = .returned (.string (nameB k)) ∧ w = w' := by
  rcases kind_cases k with rfl | rfl | rfl | rfl | rfl | rfl | rfl | rfl | rfl | rfl | rfl | ⟨h0, h1, h2, h3, h4, h5, h6, h7, h8, h9, h10⟩
  case inr.inr.inr.inr.inr.inr.inr.inr.inr.inr.inr =>
    have hn : nameB k = ⟨#[]⟩ := by simp at h0 h1 h2 h3 h4 h5 h6 h7 h8 h9 h10; simp [nameB, *]
    rw [hn]
    clear hn
    go_enter Tryd.func63, Tryd.ntmps63
    go_wp2_with fail
    go_ret
    exact ⟨rfl, rfl⟩
  all_goals
    go_enter Tryd.func63, Tryd.ntmps63
    go_wp2_with fail
    go_ret
    exact ⟨rfl, rfl⟩
theorem name_none (k : Int) : ((nameB k).toList == ByteArray.toList ⟨#[]⟩) = !known k := by
  rcases kind_cases k with rfl | rfl | rfl | rfl | rfl | rfl | rfl | rfl | rfl | rfl | rfl | ⟨h0, h1, h2, h3, h4, h5, h6, h7, h8, h9, h10⟩
  case inr.inr.inr.inr.inr.inr.inr.inr.inr.inr.inr =>
    have hn : nameB k = ⟨#[]⟩ := by simp at h0 h1 h2 h3 h4 h5 h6 h7 h8 h9 h10; simp [nameB, *]
    rw [hn]
    simp at h0 h1 h2 h3 h4 h5 h6 h7 h8 h9 h10
    simp [known, *]
  all_goals decide +kernel
end Go.Proofs.YtmmgebiojpnhcaaDoor.Ord
