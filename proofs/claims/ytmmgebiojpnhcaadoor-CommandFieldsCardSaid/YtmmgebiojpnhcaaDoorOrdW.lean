/-
  Which orders may be written: belongs, isPlace, isShown, isFit.
-/
import Derived.Test.YtmmgebiojpnhcaaDoorOrdV
import Derived.Test.YtmmgebiojpnhcaaDoorAttrC
namespace Go.Proofs.YtmmgebiojpnhcaaDoor.Ord
open Go.RowKit Base
set_option linter.unusedVariables false
set_option linter.unusedSimpArgs false

def belM (k a b : Int) (g : Bool) (pn dn : Nat) : Bool := ((a == 0) || hasA k) && ((b == 0) || hasB k) && (!g || (k == 60)) && (((pn : Int) == 0) || hasP k) && (((dn : Int) == 0) || (k == 0))
theorem two_ways (p q : Bool) : (p = false ∧ q = false) ∨ p = true ∨ (p = false ∧ q = true) := by cases p <;> cases q <;> simp
set_option maxHeartbeats 8000000 in
theorem belongs_any (k a b : Int) (g : Bool) (pa da : Option Addr) (pn pc dn dc : Nat) (w : World) : Calls Tryd.prog 64 #[.agg #[.int .u8 k, .int .i64 a, .int .u8 b, .bool g, .slice pa pn pc, .slice da dn dc]] w fun e w' => e = .returned (.bool (belM k a b g pn dn)) ∧ Below w.heap.size w w' := by
  unfold belM
  rcases two_ways (a == 0) (hasA k) with ⟨c1, r1⟩ | c1 | ⟨c1, r1⟩
  case inl =>
    go_enter Tryd.func64, Tryd.ntmps64
    go_wp2_with (first | (go_at_call 68; refine (hasAddr_any k _).mono ?_; rw [r1]; rintro e w' ⟨rfl, rfl⟩) | (go_at_call 75; refine (hasByte_any k _).mono ?_; rw [r2]; rintro e w' ⟨rfl, rfl⟩) | (go_at_call 76; refine (hasPairs_any k _).mono ?_; rw [r4]; rintro e w' ⟨rfl, rfl⟩))
    go_ret
    exact ⟨by first | rfl | simp [*], below_alloc _ _⟩
  case inr.inl =>
    rcases two_ways (b == 0) (hasB k) with ⟨c2, r2⟩ | c2 | ⟨c2, r2⟩
    case inl =>
      go_enter Tryd.func64, Tryd.ntmps64
      go_wp2_with (first | (go_at_call 68; refine (hasAddr_any k _).mono ?_; rw [r1]; rintro e w' ⟨rfl, rfl⟩) | (go_at_call 75; refine (hasByte_any k _).mono ?_; rw [r2]; rintro e w' ⟨rfl, rfl⟩) | (go_at_call 76; refine (hasPairs_any k _).mono ?_; rw [r4]; rintro e w' ⟨rfl, rfl⟩))
      go_ret
      exact ⟨by first | rfl | simp [*], below_alloc _ _⟩
    case inr.inl =>
      cases g
      case true =>
        rcases Bool.eq_false_or_eq_true (k == 60) with c3 | c3
        case inr =>
          go_enter Tryd.func64, Tryd.ntmps64
          go_wp2_with (first | (go_at_call 68; refine (hasAddr_any k _).mono ?_; rw [r1]; rintro e w' ⟨rfl, rfl⟩) | (go_at_call 75; refine (hasByte_any k _).mono ?_; rw [r2]; rintro e w' ⟨rfl, rfl⟩) | (go_at_call 76; refine (hasPairs_any k _).mono ?_; rw [r4]; rintro e w' ⟨rfl, rfl⟩))
          go_ret
          exact ⟨by first | rfl | simp [*], below_alloc _ _⟩
        rcases two_ways ((pn : Int) == 0) (hasP k) with ⟨c4, r4⟩ | c4 | ⟨c4, r4⟩
        case inl =>
          go_enter Tryd.func64, Tryd.ntmps64
          go_wp2_with (first | (go_at_call 68; refine (hasAddr_any k _).mono ?_; rw [r1]; rintro e w' ⟨rfl, rfl⟩) | (go_at_call 75; refine (hasByte_any k _).mono ?_; rw [r2]; rintro e w' ⟨rfl, rfl⟩) | (go_at_call 76; refine (hasPairs_any k _).mono ?_; rw [r4]; rintro e w' ⟨rfl, rfl⟩))
          go_ret
          exact ⟨by first | rfl | simp [*], below_alloc _ _⟩
        case inr.inl =>
          rcases two_ways ((dn : Int) == 0) ((k == 0)) with ⟨c5, r5⟩ | c5 | ⟨c5, r5⟩
          case inl =>
            go_enter Tryd.func64, Tryd.ntmps64
            go_wp2_with (first | (go_at_call 68; refine (hasAddr_any k _).mono ?_; rw [r1]; rintro e w' ⟨rfl, rfl⟩) | (go_at_call 75; refine (hasByte_any k _).mono ?_; rw [r2]; rintro e w' ⟨rfl, rfl⟩) | (go_at_call 76; refine (hasPairs_any k _).mono ?_; rw [r4]; rintro e w' ⟨rfl, rfl⟩))
            go_ret
            exact ⟨by first | rfl | simp [*], below_alloc _ _⟩
          case inr.inl =>
            go_enter Tryd.func64, Tryd.ntmps64
            go_wp2_with (first | (go_at_call 68; refine (hasAddr_any k _).mono ?_; rw [r1]; rintro e w' ⟨rfl, rfl⟩) | (go_at_call 75; refine (hasByte_any k _).mono ?_; rw [r2]; rintro e w' ⟨rfl, rfl⟩) | (go_at_call 76; refine (hasPairs_any k _).mono ?_; rw [r4]; rintro e w' ⟨rfl, rfl⟩))
            go_ret
            exact ⟨by first | rfl | simp [*], below_alloc _ _⟩
          case inr.inr =>
            go_enter Tryd.func64, Tryd.ntmps64
            go_wp2_with (first | (go_at_call 68; refine (hasAddr_any k _).mono ?_; rw [r1]; rintro e w' ⟨rfl, rfl⟩) | (go_at_call 75; refine (hasByte_any k _).mono ?_; rw [r2]; rintro e w' ⟨rfl, rfl⟩) | (go_at_call 76; refine (hasPairs_any k _).mono ?_; rw [r4]; rintro e w' ⟨rfl, rfl⟩))
            go_ret
            exact ⟨by first | rfl | simp [*], below_alloc _ _⟩
        case inr.inr =>
          rcases two_ways ((dn : Int) == 0) ((k == 0)) with ⟨c5, r5⟩ | c5 | ⟨c5, r5⟩
          case inl =>
            go_enter Tryd.func64, Tryd.ntmps64
            go_wp2_with (first | (go_at_call 68; refine (hasAddr_any k _).mono ?_; rw [r1]; rintro e w' ⟨rfl, rfl⟩) | (go_at_call 75; refine (hasByte_any k _).mono ?_; rw [r2]; rintro e w' ⟨rfl, rfl⟩) | (go_at_call 76; refine (hasPairs_any k _).mono ?_; rw [r4]; rintro e w' ⟨rfl, rfl⟩))
            go_ret
            exact ⟨by first | rfl | simp [*], below_alloc _ _⟩
          case inr.inl =>
            go_enter Tryd.func64, Tryd.ntmps64
            go_wp2_with (first | (go_at_call 68; refine (hasAddr_any k _).mono ?_; rw [r1]; rintro e w' ⟨rfl, rfl⟩) | (go_at_call 75; refine (hasByte_any k _).mono ?_; rw [r2]; rintro e w' ⟨rfl, rfl⟩) | (go_at_call 76; refine (hasPairs_any k _).mono ?_; rw [r4]; rintro e w' ⟨rfl, rfl⟩))
            go_ret
            exact ⟨by first | rfl | simp [*], below_alloc _ _⟩
          case inr.inr =>
            go_enter Tryd.func64, Tryd.ntmps64
            go_wp2_with (first | (go_at_call 68; refine (hasAddr_any k _).mono ?_; rw [r1]; rintro e w' ⟨rfl, rfl⟩) | (go_at_call 75; refine (hasByte_any k _).mono ?_; rw [r2]; rintro e w' ⟨rfl, rfl⟩) | (go_at_call 76; refine (hasPairs_any k _).mono ?_; rw [r4]; rintro e w' ⟨rfl, rfl⟩))
            go_ret
            exact ⟨by first | rfl | simp [*], below_alloc _ _⟩
      case false =>
        rcases two_ways ((pn : Int) == 0) (hasP k) with ⟨c4, r4⟩ | c4 | ⟨c4, r4⟩
        case inl =>
          go_enter Tryd.func64, Tryd.ntmps64
          go_wp2_with (first | (go_at_call 68; refine (hasAddr_any k _).mono ?_; rw [r1]; rintro e w' ⟨rfl, rfl⟩) | (go_at_call 75; refine (hasByte_any k _).mono ?_; rw [r2]; rintro e w' ⟨rfl, rfl⟩) | (go_at_call 76; refine (hasPairs_any k _).mono ?_; rw [r4]; rintro e w' ⟨rfl, rfl⟩))
          go_ret
          exact ⟨by first | rfl | simp [*], below_alloc _ _⟩
        case inr.inl =>
          rcases two_ways ((dn : Int) == 0) ((k == 0)) with ⟨c5, r5⟩ | c5 | ⟨c5, r5⟩
          case inl =>
            go_enter Tryd.func64, Tryd.ntmps64
            go_wp2_with (first | (go_at_call 68; refine (hasAddr_any k _).mono ?_; rw [r1]; rintro e w' ⟨rfl, rfl⟩) | (go_at_call 75; refine (hasByte_any k _).mono ?_; rw [r2]; rintro e w' ⟨rfl, rfl⟩) | (go_at_call 76; refine (hasPairs_any k _).mono ?_; rw [r4]; rintro e w' ⟨rfl, rfl⟩))
            go_ret
            exact ⟨by first | rfl | simp [*], below_alloc _ _⟩
          case inr.inl =>
            go_enter Tryd.func64, Tryd.ntmps64
            go_wp2_with (first | (go_at_call 68; refine (hasAddr_any k _).mono ?_; rw [r1]; rintro e w' ⟨rfl, rfl⟩) | (go_at_call 75; refine (hasByte_any k _).mono ?_; rw [r2]; rintro e w' ⟨rfl, rfl⟩) | (go_at_call 76; refine (hasPairs_any k _).mono ?_; rw [r4]; rintro e w' ⟨rfl, rfl⟩))
            go_ret
            exact ⟨by first | rfl | simp [*], below_alloc _ _⟩
          case inr.inr =>
            go_enter Tryd.func64, Tryd.ntmps64
            go_wp2_with (first | (go_at_call 68; refine (hasAddr_any k _).mono ?_; rw [r1]; rintro e w' ⟨rfl, rfl⟩) | (go_at_call 75; refine (hasByte_any k _).mono ?_; rw [r2]; rintro e w' ⟨rfl, rfl⟩) | (go_at_call 76; refine (hasPairs_any k _).mono ?_; rw [r4]; rintro e w' ⟨rfl, rfl⟩))
            go_ret
            exact ⟨by first | rfl | simp [*], below_alloc _ _⟩
        case inr.inr =>
          rcases two_ways ((dn : Int) == 0) ((k == 0)) with ⟨c5, r5⟩ | c5 | ⟨c5, r5⟩
          case inl =>
            go_enter Tryd.func64, Tryd.ntmps64
            go_wp2_with (first | (go_at_call 68; refine (hasAddr_any k _).mono ?_; rw [r1]; rintro e w' ⟨rfl, rfl⟩) | (go_at_call 75; refine (hasByte_any k _).mono ?_; rw [r2]; rintro e w' ⟨rfl, rfl⟩) | (go_at_call 76; refine (hasPairs_any k _).mono ?_; rw [r4]; rintro e w' ⟨rfl, rfl⟩))
            go_ret
            exact ⟨by first | rfl | simp [*], below_alloc _ _⟩
          case inr.inl =>
            go_enter Tryd.func64, Tryd.ntmps64
            go_wp2_with (first | (go_at_call 68; refine (hasAddr_any k _).mono ?_; rw [r1]; rintro e w' ⟨rfl, rfl⟩) | (go_at_call 75; refine (hasByte_any k _).mono ?_; rw [r2]; rintro e w' ⟨rfl, rfl⟩) | (go_at_call 76; refine (hasPairs_any k _).mono ?_; rw [r4]; rintro e w' ⟨rfl, rfl⟩))
            go_ret
            exact ⟨by first | rfl | simp [*], below_alloc _ _⟩
          case inr.inr =>
            go_enter Tryd.func64, Tryd.ntmps64
            go_wp2_with (first | (go_at_call 68; refine (hasAddr_any k _).mono ?_; rw [r1]; rintro e w' ⟨rfl, rfl⟩) | (go_at_call 75; refine (hasByte_any k _).mono ?_; rw [r2]; rintro e w' ⟨rfl, rfl⟩) | (go_at_call 76; refine (hasPairs_any k _).mono ?_; rw [r4]; rintro e w' ⟨rfl, rfl⟩))
            go_ret
            exact ⟨by first | rfl | simp [*], below_alloc _ _⟩
    case inr.inr =>
      cases g
      case true =>
        rcases Bool.eq_false_or_eq_true (k == 60) with c3 | c3
        case inr =>
          go_enter Tryd.func64, Tryd.ntmps64
          go_wp2_with (first | (go_at_call 68; refine (hasAddr_any k _).mono ?_; rw [r1]; rintro e w' ⟨rfl, rfl⟩) | (go_at_call 75; refine (hasByte_any k _).mono ?_; rw [r2]; rintro e w' ⟨rfl, rfl⟩) | (go_at_call 76; refine (hasPairs_any k _).mono ?_; rw [r4]; rintro e w' ⟨rfl, rfl⟩))
          go_ret
          exact ⟨by first | rfl | simp [*], below_alloc _ _⟩
        rcases two_ways ((pn : Int) == 0) (hasP k) with ⟨c4, r4⟩ | c4 | ⟨c4, r4⟩
        case inl =>
          go_enter Tryd.func64, Tryd.ntmps64
          go_wp2_with (first | (go_at_call 68; refine (hasAddr_any k _).mono ?_; rw [r1]; rintro e w' ⟨rfl, rfl⟩) | (go_at_call 75; refine (hasByte_any k _).mono ?_; rw [r2]; rintro e w' ⟨rfl, rfl⟩) | (go_at_call 76; refine (hasPairs_any k _).mono ?_; rw [r4]; rintro e w' ⟨rfl, rfl⟩))
          go_ret
          exact ⟨by first | rfl | simp [*], below_alloc _ _⟩
        case inr.inl =>
          rcases two_ways ((dn : Int) == 0) ((k == 0)) with ⟨c5, r5⟩ | c5 | ⟨c5, r5⟩
          case inl =>
            go_enter Tryd.func64, Tryd.ntmps64
            go_wp2_with (first | (go_at_call 68; refine (hasAddr_any k _).mono ?_; rw [r1]; rintro e w' ⟨rfl, rfl⟩) | (go_at_call 75; refine (hasByte_any k _).mono ?_; rw [r2]; rintro e w' ⟨rfl, rfl⟩) | (go_at_call 76; refine (hasPairs_any k _).mono ?_; rw [r4]; rintro e w' ⟨rfl, rfl⟩))
            go_ret
            exact ⟨by first | rfl | simp [*], below_alloc _ _⟩
          case inr.inl =>
            go_enter Tryd.func64, Tryd.ntmps64
            go_wp2_with (first | (go_at_call 68; refine (hasAddr_any k _).mono ?_; rw [r1]; rintro e w' ⟨rfl, rfl⟩) | (go_at_call 75; refine (hasByte_any k _).mono ?_; rw [r2]; rintro e w' ⟨rfl, rfl⟩) | (go_at_call 76; refine (hasPairs_any k _).mono ?_; rw [r4]; rintro e w' ⟨rfl, rfl⟩))
            go_ret
            exact ⟨by first | rfl | simp [*], below_alloc _ _⟩
          case inr.inr =>
            go_enter Tryd.func64, Tryd.ntmps64
            go_wp2_with (first | (go_at_call 68; refine (hasAddr_any k _).mono ?_; rw [r1]; rintro e w' ⟨rfl, rfl⟩) | (go_at_call 75; refine (hasByte_any k _).mono ?_; rw [r2]; rintro e w' ⟨rfl, rfl⟩) | (go_at_call 76; refine (hasPairs_any k _).mono ?_; rw [r4]; rintro e w' ⟨rfl, rfl⟩))
            go_ret
            exact ⟨by first | rfl | simp [*], below_alloc _ _⟩
        case inr.inr =>
          rcases two_ways ((dn : Int) == 0) ((k == 0)) with ⟨c5, r5⟩ | c5 | ⟨c5, r5⟩
          case inl =>
            go_enter Tryd.func64, Tryd.ntmps64
            go_wp2_with (first | (go_at_call 68; refine (hasAddr_any k _).mono ?_; rw [r1]; rintro e w' ⟨rfl, rfl⟩) | (go_at_call 75; refine (hasByte_any k _).mono ?_; rw [r2]; rintro e w' ⟨rfl, rfl⟩) | (go_at_call 76; refine (hasPairs_any k _).mono ?_; rw [r4]; rintro e w' ⟨rfl, rfl⟩))
            go_ret
            exact ⟨by first | rfl | simp [*], below_alloc _ _⟩
          case inr.inl =>
            go_enter Tryd.func64, Tryd.ntmps64
            go_wp2_with (first | (go_at_call 68; refine (hasAddr_any k _).mono ?_; rw [r1]; rintro e w' ⟨rfl, rfl⟩) | (go_at_call 75; refine (hasByte_any k _).mono ?_; rw [r2]; rintro e w' ⟨rfl, rfl⟩) | (go_at_call 76; refine (hasPairs_any k _).mono ?_; rw [r4]; rintro e w' ⟨rfl, rfl⟩))
            go_ret
            exact ⟨by first | rfl | simp [*], below_alloc _ _⟩
          case inr.inr =>
            go_enter Tryd.func64, Tryd.ntmps64
            go_wp2_with (first | (go_at_call 68; refine (hasAddr_any k _).mono ?_; rw [r1]; rintro e w' ⟨rfl, rfl⟩) | (go_at_call 75; refine (hasByte_any k _).mono ?_; rw [r2]; rintro e w' ⟨rfl, rfl⟩) | (go_at_call 76; refine (hasPairs_any k _).mono ?_; rw [r4]; rintro e w' ⟨rfl, rfl⟩))
            go_ret
            exact ⟨by first | rfl | simp [*], below_alloc _ _⟩
      case false =>
        rcases two_ways ((pn : Int) == 0) (hasP k) with ⟨c4, r4⟩ | c4 | ⟨c4, r4⟩
        case inl =>
          go_enter Tryd.func64, Tryd.ntmps64
          go_wp2_with (first | (go_at_call 68; refine (hasAddr_any k _).mono ?_; rw [r1]; rintro e w' ⟨rfl, rfl⟩) | (go_at_call 75; refine (hasByte_any k _).mono ?_; rw [r2]; rintro e w' ⟨rfl, rfl⟩) | (go_at_call 76; refine (hasPairs_any k _).mono ?_; rw [r4]; rintro e w' ⟨rfl, rfl⟩))
          go_ret
          exact ⟨by first | rfl | simp [*], below_alloc _ _⟩
        case inr.inl =>
          rcases two_ways ((dn : Int) == 0) ((k == 0)) with ⟨c5, r5⟩ | c5 | ⟨c5, r5⟩
          case inl =>
            go_enter Tryd.func64, Tryd.ntmps64
            go_wp2_with (first | (go_at_call 68; refine (hasAddr_any k _).mono ?_; rw [r1]; rintro e w' ⟨rfl, rfl⟩) | (go_at_call 75; refine (hasByte_any k _).mono ?_; rw [r2]; rintro e w' ⟨rfl, rfl⟩) | (go_at_call 76; refine (hasPairs_any k _).mono ?_; rw [r4]; rintro e w' ⟨rfl, rfl⟩))
            go_ret
            exact ⟨by first | rfl | simp [*], below_alloc _ _⟩
          case inr.inl =>
            go_enter Tryd.func64, Tryd.ntmps64
            go_wp2_with (first | (go_at_call 68; refine (hasAddr_any k _).mono ?_; rw [r1]; rintro e w' ⟨rfl, rfl⟩) | (go_at_call 75; refine (hasByte_any k _).mono ?_; rw [r2]; rintro e w' ⟨rfl, rfl⟩) | (go_at_call 76; refine (hasPairs_any k _).mono ?_; rw [r4]; rintro e w' ⟨rfl, rfl⟩))
            go_ret
            exact ⟨by first | rfl | simp [*], below_alloc _ _⟩
          case inr.inr =>
            go_enter Tryd.func64, Tryd.ntmps64
            go_wp2_with (first | (go_at_call 68; refine (hasAddr_any k _).mono ?_; rw [r1]; rintro e w' ⟨rfl, rfl⟩) | (go_at_call 75; refine (hasByte_any k _).mono ?_; rw [r2]; rintro e w' ⟨rfl, rfl⟩) | (go_at_call 76; refine (hasPairs_any k _).mono ?_; rw [r4]; rintro e w' ⟨rfl, rfl⟩))
            go_ret
            exact ⟨by first | rfl | simp [*], below_alloc _ _⟩
        case inr.inr =>
          rcases two_ways ((dn : Int) == 0) ((k == 0)) with ⟨c5, r5⟩ | c5 | ⟨c5, r5⟩
          case inl =>
            go_enter Tryd.func64, Tryd.ntmps64
            go_wp2_with (first | (go_at_call 68; refine (hasAddr_any k _).mono ?_; rw [r1]; rintro e w' ⟨rfl, rfl⟩) | (go_at_call 75; refine (hasByte_any k _).mono ?_; rw [r2]; rintro e w' ⟨rfl, rfl⟩) | (go_at_call 76; refine (hasPairs_any k _).mono ?_; rw [r4]; rintro e w' ⟨rfl, rfl⟩))
            go_ret
            exact ⟨by first | rfl | simp [*], below_alloc _ _⟩
          case inr.inl =>
            go_enter Tryd.func64, Tryd.ntmps64
            go_wp2_with (first | (go_at_call 68; refine (hasAddr_any k _).mono ?_; rw [r1]; rintro e w' ⟨rfl, rfl⟩) | (go_at_call 75; refine (hasByte_any k _).mono ?_; rw [r2]; rintro e w' ⟨rfl, rfl⟩) | (go_at_call 76; refine (hasPairs_any k _).mono ?_; rw [r4]; rintro e w' ⟨rfl, rfl⟩))
            go_ret
            exact ⟨by first | rfl | simp [*], below_alloc _ _⟩
          case inr.inr =>
            go_enter Tryd.func64, Tryd.ntmps64
            go_wp2_with (first | (go_at_call 68; refine (hasAddr_any k _).mono ?_; rw [r1]; rintro e w' ⟨rfl, rfl⟩) | (go_at_call 75; refine (hasByte_any k _).mono ?_; rw [r2]; rintro e w' ⟨rfl, rfl⟩) | (go_at_call 76; refine (hasPairs_any k _).mono ?_; rw [r4]; rintro e w' ⟨rfl, rfl⟩))
            go_ret
            exact ⟨by first | rfl | simp [*], below_alloc _ _⟩
  case inr.inr =>
    rcases two_ways (b == 0) (hasB k) with ⟨c2, r2⟩ | c2 | ⟨c2, r2⟩
    case inl =>
      go_enter Tryd.func64, Tryd.ntmps64
      go_wp2_with (first | (go_at_call 68; refine (hasAddr_any k _).mono ?_; rw [r1]; rintro e w' ⟨rfl, rfl⟩) | (go_at_call 75; refine (hasByte_any k _).mono ?_; rw [r2]; rintro e w' ⟨rfl, rfl⟩) | (go_at_call 76; refine (hasPairs_any k _).mono ?_; rw [r4]; rintro e w' ⟨rfl, rfl⟩))
      go_ret
      exact ⟨by first | rfl | simp [*], below_alloc _ _⟩
    case inr.inl =>
      cases g
      case true =>
        rcases Bool.eq_false_or_eq_true (k == 60) with c3 | c3
        case inr =>
          go_enter Tryd.func64, Tryd.ntmps64
          go_wp2_with (first | (go_at_call 68; refine (hasAddr_any k _).mono ?_; rw [r1]; rintro e w' ⟨rfl, rfl⟩) | (go_at_call 75; refine (hasByte_any k _).mono ?_; rw [r2]; rintro e w' ⟨rfl, rfl⟩) | (go_at_call 76; refine (hasPairs_any k _).mono ?_; rw [r4]; rintro e w' ⟨rfl, rfl⟩))
          go_ret
          exact ⟨by first | rfl | simp [*], below_alloc _ _⟩
        rcases two_ways ((pn : Int) == 0) (hasP k) with ⟨c4, r4⟩ | c4 | ⟨c4, r4⟩
        case inl =>
          go_enter Tryd.func64, Tryd.ntmps64
          go_wp2_with (first | (go_at_call 68; refine (hasAddr_any k _).mono ?_; rw [r1]; rintro e w' ⟨rfl, rfl⟩) | (go_at_call 75; refine (hasByte_any k _).mono ?_; rw [r2]; rintro e w' ⟨rfl, rfl⟩) | (go_at_call 76; refine (hasPairs_any k _).mono ?_; rw [r4]; rintro e w' ⟨rfl, rfl⟩))
          go_ret
          exact ⟨by first | rfl | simp [*], below_alloc _ _⟩
        case inr.inl =>
          rcases two_ways ((dn : Int) == 0) ((k == 0)) with ⟨c5, r5⟩ | c5 | ⟨c5, r5⟩
          case inl =>
            go_enter Tryd.func64, Tryd.ntmps64
            go_wp2_with (first | (go_at_call 68; refine (hasAddr_any k _).mono ?_; rw [r1]; rintro e w' ⟨rfl, rfl⟩) | (go_at_call 75; refine (hasByte_any k _).mono ?_; rw [r2]; rintro e w' ⟨rfl, rfl⟩) | (go_at_call 76; refine (hasPairs_any k _).mono ?_; rw [r4]; rintro e w' ⟨rfl, rfl⟩))
            go_ret
            exact ⟨by first | rfl | simp [*], below_alloc _ _⟩
          case inr.inl =>
            go_enter Tryd.func64, Tryd.ntmps64
            go_wp2_with (first | (go_at_call 68; refine (hasAddr_any k _).mono ?_; rw [r1]; rintro e w' ⟨rfl, rfl⟩) | (go_at_call 75; refine (hasByte_any k _).mono ?_; rw [r2]; rintro e w' ⟨rfl, rfl⟩) | (go_at_call 76; refine (hasPairs_any k _).mono ?_; rw [r4]; rintro e w' ⟨rfl, rfl⟩))
            go_ret
            exact ⟨by first | rfl | simp [*], below_alloc _ _⟩
          case inr.inr =>
            go_enter Tryd.func64, Tryd.ntmps64
            go_wp2_with (first | (go_at_call 68; refine (hasAddr_any k _).mono ?_; rw [r1]; rintro e w' ⟨rfl, rfl⟩) | (go_at_call 75; refine (hasByte_any k _).mono ?_; rw [r2]; rintro e w' ⟨rfl, rfl⟩) | (go_at_call 76; refine (hasPairs_any k _).mono ?_; rw [r4]; rintro e w' ⟨rfl, rfl⟩))
            go_ret
            exact ⟨by first | rfl | simp [*], below_alloc _ _⟩
        case inr.inr =>
          rcases two_ways ((dn : Int) == 0) ((k == 0)) with ⟨c5, r5⟩ | c5 | ⟨c5, r5⟩
          case inl =>
            go_enter Tryd.func64, Tryd.ntmps64
            go_wp2_with (first | (go_at_call 68; refine (hasAddr_any k _).mono ?_; rw [r1]; rintro e w' ⟨rfl, rfl⟩) | (go_at_call 75; refine (hasByte_any k _).mono ?_; rw [r2]; rintro e w' ⟨rfl, rfl⟩) | (go_at_call 76; refine (hasPairs_any k _).mono ?_; rw [r4]; rintro e w' ⟨rfl, rfl⟩))
            go_ret
            exact ⟨by first | rfl | simp [*], below_alloc _ _⟩
          case inr.inl =>
            go_enter Tryd.func64, Tryd.ntmps64
            go_wp2_with (first | (go_at_call 68; refine (hasAddr_any k _).mono ?_; rw [r1]; rintro e w' ⟨rfl, rfl⟩) | (go_at_call 75; refine (hasByte_any k _).mono ?_; rw [r2]; rintro e w' ⟨rfl, rfl⟩) | (go_at_call 76; refine (hasPairs_any k _).mono ?_; rw [r4]; rintro e w' ⟨rfl, rfl⟩))
            go_ret
            exact ⟨by first | rfl | simp [*], below_alloc _ _⟩
          case inr.inr =>
            go_enter Tryd.func64, Tryd.ntmps64
            go_wp2_with (first | (go_at_call 68; refine (hasAddr_any k _).mono ?_; rw [r1]; rintro e w' ⟨rfl, rfl⟩) | (go_at_call 75; refine (hasByte_any k _).mono ?_; rw [r2]; rintro e w' ⟨rfl, rfl⟩) | (go_at_call 76; refine (hasPairs_any k _).mono ?_; rw [r4]; rintro e w' ⟨rfl, rfl⟩))
            go_ret
            exact ⟨by first | rfl | simp [*], below_alloc _ _⟩
      case false =>
        rcases two_ways ((pn : Int) == 0) (hasP k) with ⟨c4, r4⟩ | c4 | ⟨c4, r4⟩
        case inl =>
          go_enter Tryd.func64, Tryd.ntmps64
          go_wp2_with (first | (go_at_call 68; refine (hasAddr_any k _).mono ?_; rw [r1]; rintro e w' ⟨rfl, rfl⟩) | (go_at_call 75; refine (hasByte_any k _).mono ?_; rw [r2]; rintro e w' ⟨rfl, rfl⟩) | (go_at_call 76; refine (hasPairs_any k _).mono ?_; rw [r4]; rintro e w' ⟨rfl, rfl⟩))
          go_ret
          exact ⟨by first | rfl | simp [*], below_alloc _ _⟩
        case inr.inl =>
          rcases two_ways ((dn : Int) == 0) ((k == 0)) with ⟨c5, r5⟩ | c5 | ⟨c5, r5⟩
          case inl =>
            go_enter Tryd.func64, Tryd.ntmps64
            go_wp2_with (first | (go_at_call 68; refine (hasAddr_any k _).mono ?_; rw [r1]; rintro e w' ⟨rfl, rfl⟩) | (go_at_call 75; refine (hasByte_any k _).mono ?_; rw [r2]; rintro e w' ⟨rfl, rfl⟩) | (go_at_call 76; refine (hasPairs_any k _).mono ?_; rw [r4]; rintro e w' ⟨rfl, rfl⟩))
            go_ret
            exact ⟨by first | rfl | simp [*], below_alloc _ _⟩
          case inr.inl =>
            go_enter Tryd.func64, Tryd.ntmps64
            go_wp2_with (first | (go_at_call 68; refine (hasAddr_any k _).mono ?_; rw [r1]; rintro e w' ⟨rfl, rfl⟩) | (go_at_call 75; refine (hasByte_any k _).mono ?_; rw [r2]; rintro e w' ⟨rfl, rfl⟩) | (go_at_call 76; refine (hasPairs_any k _).mono ?_; rw [r4]; rintro e w' ⟨rfl, rfl⟩))
            go_ret
            exact ⟨by first | rfl | simp [*], below_alloc _ _⟩
          case inr.inr =>
            go_enter Tryd.func64, Tryd.ntmps64
            go_wp2_with (first | (go_at_call 68; refine (hasAddr_any k _).mono ?_; rw [r1]; rintro e w' ⟨rfl, rfl⟩) | (go_at_call 75; refine (hasByte_any k _).mono ?_; rw [r2]; rintro e w' ⟨rfl, rfl⟩) | (go_at_call 76; refine (hasPairs_any k _).mono ?_; rw [r4]; rintro e w' ⟨rfl, rfl⟩))
            go_ret
            exact ⟨by first | rfl | simp [*], below_alloc _ _⟩
        case inr.inr =>
          rcases two_ways ((dn : Int) == 0) ((k == 0)) with ⟨c5, r5⟩ | c5 | ⟨c5, r5⟩
          case inl =>
            go_enter Tryd.func64, Tryd.ntmps64
            go_wp2_with (first | (go_at_call 68; refine (hasAddr_any k _).mono ?_; rw [r1]; rintro e w' ⟨rfl, rfl⟩) | (go_at_call 75; refine (hasByte_any k _).mono ?_; rw [r2]; rintro e w' ⟨rfl, rfl⟩) | (go_at_call 76; refine (hasPairs_any k _).mono ?_; rw [r4]; rintro e w' ⟨rfl, rfl⟩))
            go_ret
            exact ⟨by first | rfl | simp [*], below_alloc _ _⟩
          case inr.inl =>
            go_enter Tryd.func64, Tryd.ntmps64
            go_wp2_with (first | (go_at_call 68; refine (hasAddr_any k _).mono ?_; rw [r1]; rintro e w' ⟨rfl, rfl⟩) | (go_at_call 75; refine (hasByte_any k _).mono ?_; rw [r2]; rintro e w' ⟨rfl, rfl⟩) | (go_at_call 76; refine (hasPairs_any k _).mono ?_; rw [r4]; rintro e w' ⟨rfl, rfl⟩))
            go_ret
            exact ⟨by first | rfl | simp [*], below_alloc _ _⟩
          case inr.inr =>
            go_enter Tryd.func64, Tryd.ntmps64
            go_wp2_with (first | (go_at_call 68; refine (hasAddr_any k _).mono ?_; rw [r1]; rintro e w' ⟨rfl, rfl⟩) | (go_at_call 75; refine (hasByte_any k _).mono ?_; rw [r2]; rintro e w' ⟨rfl, rfl⟩) | (go_at_call 76; refine (hasPairs_any k _).mono ?_; rw [r4]; rintro e w' ⟨rfl, rfl⟩))
            go_ret
            exact ⟨by first | rfl | simp [*], below_alloc _ _⟩
    case inr.inr =>
      cases g
      case true =>
        rcases Bool.eq_false_or_eq_true (k == 60) with c3 | c3
        case inr =>
          go_enter Tryd.func64, Tryd.ntmps64
          go_wp2_with (first | (go_at_call 68; refine (hasAddr_any k _).mono ?_; rw [r1]; rintro e w' ⟨rfl, rfl⟩) | (go_at_call 75; refine (hasByte_any k _).mono ?_; rw [r2]; rintro e w' ⟨rfl, rfl⟩) | (go_at_call 76; refine (hasPairs_any k _).mono ?_; rw [r4]; rintro e w' ⟨rfl, rfl⟩))
          go_ret
          exact ⟨by first | rfl | simp [*], below_alloc _ _⟩
        rcases two_ways ((pn : Int) == 0) (hasP k) with ⟨c4, r4⟩ | c4 | ⟨c4, r4⟩
        case inl =>
          go_enter Tryd.func64, Tryd.ntmps64
          go_wp2_with (first | (go_at_call 68; refine (hasAddr_any k _).mono ?_; rw [r1]; rintro e w' ⟨rfl, rfl⟩) | (go_at_call 75; refine (hasByte_any k _).mono ?_; rw [r2]; rintro e w' ⟨rfl, rfl⟩) | (go_at_call 76; refine (hasPairs_any k _).mono ?_; rw [r4]; rintro e w' ⟨rfl, rfl⟩))
          go_ret
          exact ⟨by first | rfl | simp [*], below_alloc _ _⟩
        case inr.inl =>
          rcases two_ways ((dn : Int) == 0) ((k == 0)) with ⟨c5, r5⟩ | c5 | ⟨c5, r5⟩
          case inl =>
            go_enter Tryd.func64, Tryd.ntmps64
            go_wp2_with (first | (go_at_call 68; refine (hasAddr_any k _).mono ?_; rw [r1]; rintro e w' ⟨rfl, rfl⟩) | (go_at_call 75; refine (hasByte_any k _).mono ?_; rw [r2]; rintro e w' ⟨rfl, rfl⟩) | (go_at_call 76; refine (hasPairs_any k _).mono ?_; rw [r4]; rintro e w' ⟨rfl, rfl⟩))
            go_ret
            exact ⟨by first | rfl | simp [*], below_alloc _ _⟩
          case inr.inl =>
            go_enter Tryd.func64, Tryd.ntmps64
            go_wp2_with (first | (go_at_call 68; refine (hasAddr_any k _).mono ?_; rw [r1]; rintro e w' ⟨rfl, rfl⟩) | (go_at_call 75; refine (hasByte_any k _).mono ?_; rw [r2]; rintro e w' ⟨rfl, rfl⟩) | (go_at_call 76; refine (hasPairs_any k _).mono ?_; rw [r4]; rintro e w' ⟨rfl, rfl⟩))
            go_ret
            exact ⟨by first | rfl | simp [*], below_alloc _ _⟩
          case inr.inr =>
            go_enter Tryd.func64, Tryd.ntmps64
            go_wp2_with (first | (go_at_call 68; refine (hasAddr_any k _).mono ?_; rw [r1]; rintro e w' ⟨rfl, rfl⟩) | (go_at_call 75; refine (hasByte_any k _).mono ?_; rw [r2]; rintro e w' ⟨rfl, rfl⟩) | (go_at_call 76; refine (hasPairs_any k _).mono ?_; rw [r4]; rintro e w' ⟨rfl, rfl⟩))
            go_ret
            exact ⟨by first | rfl | simp [*], below_alloc _ _⟩
        case inr.inr =>
          rcases two_ways ((dn : Int) == 0) ((k == 0)) with ⟨c5, r5⟩ | c5 | ⟨c5, r5⟩
          case inl =>
            go_enter Tryd.func64, Tryd.ntmps64
            go_wp2_with (first | (go_at_call 68; refine (hasAddr_any k _).mono ?_; rw [r1]; rintro e w' ⟨rfl, rfl⟩) | (go_at_call 75; refine (hasByte_any k _).mono ?_; rw [r2]; rintro e w' ⟨rfl, rfl⟩) | (go_at_call 76; refine (hasPairs_any k _).mono ?_; rw [r4]; rintro e w' ⟨rfl, rfl⟩))
            go_ret
            exact ⟨by first | rfl | simp [*], below_alloc _ _⟩
          case inr.inl =>
            go_enter Tryd.func64, Tryd.ntmps64
            go_wp2_with (first | (go_at_call 68; refine (hasAddr_any k _).mono ?_; rw [r1]; rintro e w' ⟨rfl, rfl⟩) | (go_at_call 75; refine (hasByte_any k _).mono ?_; rw [r2]; rintro e w' ⟨rfl, rfl⟩) | (go_at_call 76; refine (hasPairs_any k _).mono ?_; rw [r4]; rintro e w' ⟨rfl, rfl⟩))
            go_ret
            exact ⟨by first | rfl | simp [*], below_alloc _ _⟩
          case inr.inr =>
            go_enter Tryd.func64, Tryd.ntmps64
            go_wp2_with (first | (go_at_call 68; refine (hasAddr_any k _).mono ?_; rw [r1]; rintro e w' ⟨rfl, rfl⟩) | (go_at_call 75; refine (hasByte_any k _).mono ?_; rw [r2]; rintro e w' ⟨rfl, rfl⟩) | (go_at_call 76; refine (hasPairs_any k _).mono ?_; rw [r4]; rintro e w' ⟨rfl, rfl⟩))
            go_ret
            exact ⟨by first | rfl | simp [*], below_alloc _ _⟩
      case false =>
        rcases two_ways ((pn : Int) == 0) (hasP k) with ⟨c4, r4⟩ | c4 | ⟨c4, r4⟩
        case inl =>
          go_enter Tryd.func64, Tryd.ntmps64
          go_wp2_with (first | (go_at_call 68; refine (hasAddr_any k _).mono ?_; rw [r1]; rintro e w' ⟨rfl, rfl⟩) | (go_at_call 75; refine (hasByte_any k _).mono ?_; rw [r2]; rintro e w' ⟨rfl, rfl⟩) | (go_at_call 76; refine (hasPairs_any k _).mono ?_; rw [r4]; rintro e w' ⟨rfl, rfl⟩))
          go_ret
          exact ⟨by first | rfl | simp [*], below_alloc _ _⟩
        case inr.inl =>
          rcases two_ways ((dn : Int) == 0) ((k == 0)) with ⟨c5, r5⟩ | c5 | ⟨c5, r5⟩
          case inl =>
            go_enter Tryd.func64, Tryd.ntmps64
            go_wp2_with (first | (go_at_call 68; refine (hasAddr_any k _).mono ?_; rw [r1]; rintro e w' ⟨rfl, rfl⟩) | (go_at_call 75; refine (hasByte_any k _).mono ?_; rw [r2]; rintro e w' ⟨rfl, rfl⟩) | (go_at_call 76; refine (hasPairs_any k _).mono ?_; rw [r4]; rintro e w' ⟨rfl, rfl⟩))
            go_ret
            exact ⟨by first | rfl | simp [*], below_alloc _ _⟩
          case inr.inl =>
            go_enter Tryd.func64, Tryd.ntmps64
            go_wp2_with (first | (go_at_call 68; refine (hasAddr_any k _).mono ?_; rw [r1]; rintro e w' ⟨rfl, rfl⟩) | (go_at_call 75; refine (hasByte_any k _).mono ?_; rw [r2]; rintro e w' ⟨rfl, rfl⟩) | (go_at_call 76; refine (hasPairs_any k _).mono ?_; rw [r4]; rintro e w' ⟨rfl, rfl⟩))
            go_ret
            exact ⟨by first | rfl | simp [*], below_alloc _ _⟩
          case inr.inr =>
            go_enter Tryd.func64, Tryd.ntmps64
            go_wp2_with (first | (go_at_call 68; refine (hasAddr_any k _).mono ?_; rw [r1]; rintro e w' ⟨rfl, rfl⟩) | (go_at_call 75; refine (hasByte_any k _).mono ?_; rw [r2]; rintro e w' ⟨rfl, rfl⟩) | (go_at_call 76; refine (hasPairs_any k _).mono ?_; rw [r4]; rintro e w' ⟨rfl, rfl⟩))
            go_ret
            exact ⟨by first | rfl | simp [*], below_alloc _ _⟩
        case inr.inr =>
          rcases two_ways ((dn : Int) == 0) ((k == 0)) with ⟨c5, r5⟩ | c5 | ⟨c5, r5⟩
          case inl =>
            go_enter Tryd.func64, Tryd.ntmps64
            go_wp2_with (first | (go_at_call 68; refine (hasAddr_any k _).mono ?_; rw [r1]; rintro e w' ⟨rfl, rfl⟩) | (go_at_call 75; refine (hasByte_any k _).mono ?_; rw [r2]; rintro e w' ⟨rfl, rfl⟩) | (go_at_call 76; refine (hasPairs_any k _).mono ?_; rw [r4]; rintro e w' ⟨rfl, rfl⟩))
            go_ret
            exact ⟨by first | rfl | simp [*], below_alloc _ _⟩
          case inr.inl =>
            go_enter Tryd.func64, Tryd.ntmps64
            go_wp2_with (first | (go_at_call 68; refine (hasAddr_any k _).mono ?_; rw [r1]; rintro e w' ⟨rfl, rfl⟩) | (go_at_call 75; refine (hasByte_any k _).mono ?_; rw [r2]; rintro e w' ⟨rfl, rfl⟩) | (go_at_call 76; refine (hasPairs_any k _).mono ?_; rw [r4]; rintro e w' ⟨rfl, rfl⟩))
            go_ret
            exact ⟨by first | rfl | simp [*], below_alloc _ _⟩
          case inr.inr =>
            go_enter Tryd.func64, Tryd.ntmps64
            go_wp2_with (first | (go_at_call 68; refine (hasAddr_any k _).mono ?_; rw [r1]; rintro e w' ⟨rfl, rfl⟩) | (go_at_call 75; refine (hasByte_any k _).mono ?_; rw [r2]; rintro e w' ⟨rfl, rfl⟩) | (go_at_call 76; refine (hasPairs_any k _).mono ?_; rw [r4]; rintro e w' ⟨rfl, rfl⟩))
            go_ret
            exact ⟨by first | rfl | simp [*], below_alloc _ _⟩
end Go.Proofs.YtmmgebiojpnhcaaDoor.Ord
