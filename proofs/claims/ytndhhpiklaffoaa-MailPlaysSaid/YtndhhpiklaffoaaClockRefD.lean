/-
  The reference's clock: Next of no alarms.
-/
import Derived.Test.YtndhhpiklaffoaaClockRefC
namespace Go.Proofs.Ytndhhpiklaffoaa.Clock
open Go.RowKit
set_option linter.unusedVariables false

set_option maxRecDepth 100000 in
set_option maxHeartbeats 4000000 in
theorem rnext_none (base : Nat) (now : Int) (v : Value) (w : World) (h : RefRow base w v []) :
    Calls Try.prog 35 #[.agg #[.int .i64 now, v]] w fun e w' => e = .returned (.tuple #[.agg #[.int .i64 0, .int .i64 0], .bool false]) ∧ Below w.heap.size w w' := by
  have hz := (zero_of_info info_ra2).1
  obtain ⟨a, cap, rfl⟩ : ∃ a cap, v = .slice a 0 cap := by
    rcases h.lit with ⟨rfl, _⟩ | ⟨g, cap, rfl, _⟩
    · exact ⟨_, _, rfl⟩
    · exact ⟨_, _, rfl⟩
  clear h
  obtain ⟨s, hs⟩ : ∃ s, s = w.heap.size := ⟨_, rfl⟩
  have hz1 : (w.alloc (.cells #[.int .i64 now, .slice a 0 cap] 60)).heap.size = s + 1 := by rw [World.size_alloc, hs]
  obtain ⟨W0, hW⟩ : ∃ W0, W0 = (w.alloc (.cells #[.int .i64 now, .slice a 0 cap] 60)).alloc (.cells #[.int .i64 0, .int .i64 0] 75) := ⟨_, rfl⟩
  have hres : W0.heap[s + 1]? = some (.cells #[.int .i64 0, .int .i64 0] 75 (0, 0)) := by
    have := heap_alloc_new (w.alloc (.cells #[.int .i64 now, .slice a 0 cap] 60)) (.cells #[.int .i64 0, .int .i64 0] 75)
    rw [hz1, ← hW] at this
    exact this
  have hold : Below s w W0 := by rw [hW, hs]; exact ((Below.refl _ w).alloc (Nat.le_refl _) _).alloc (by simp) _
  have HRUN := Lib.hid (run_loadVar_row _ (s + 1) 75 75 #[.int .i64 0, .int .i64 0] (0, 0) _ hres Try.underlying75 rfl size_ra)
  have HOLD := Lib.hid hold
  have HW := Lib.hid hW.symm
  have HS := Lib.hid hs.symm
  clear hz1 hres hold hW hs
  go_enter Try.func35, Try.ntmps35
  go_wp2_with fail
  (try simp only [Exit.inBlock, Exit.then])
  rw [HW.out, HS.out]
  refine bodyPost_ret (results_row_tmp rfl _ _ (s + 1) _ rfl HRUN.out) rfl ?_
  exact ⟨rfl, HOLD.out⟩
end Go.Proofs.Ytndhhpiklaffoaa.Clock
