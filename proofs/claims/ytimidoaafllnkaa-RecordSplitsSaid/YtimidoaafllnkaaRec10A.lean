/-
  The statements' 'as' of records: an event as the reference's.
-/
import Derived.Test.YtimidoaafllnkaaHeadH
import Derived.Test.YtimidoaafllnkaaRecC
namespace Go.Proofs.Ytimidoaafllnkaa.Rec
open Go.RowKit Base Iac Head
set_option linter.unusedVariables false

theorem size_rev : (Try.prog.info? 32).map (·.size) = some 4 := by kernel_rfl
theorem info_rev : (Try.prog.info? 32).map (fun i => (i.zero, i.size)) = some (some (.agg #[.int .i64 0, .int .u8 0, .int .u8 0, .slice none 0 0]), 4) := by kernel_rfl
theorem load_rev {g : Nat} {W : World} {cs : Array Value} (hr : W.heap[g]? = some (.cells cs 32 (0, 0))) (hs : cs.size = 4) : (loadVar 32 ⟨g, 0, none⟩).run Try.prog W = .ok (.agg cs) W :=
  run_loadVar_row _ g 32 32 cs (0, 0) _ hr Try.underlying32 rfl (by rw [hs]; exact size_rev)
set_option maxRecDepth 100000 in
set_option maxHeartbeats 4000000 in
theorem ras_any (k c o : Int) (a : Option Addr) (n cap : Nat) (w : World) : Calls Try.prog 59 #[.agg #[.int .i64 k, .int .u8 c, .int .u8 o, .slice a n cap]] w fun e w' => e = .returned (.agg #[.int .i64 k, .int .u8 c, .int .u8 o, .slice a n cap]) ∧ Below w.heap.size w w' := by
  have hz := (zero_of_info info_rev).1
  obtain ⟨W0, hW0⟩ : ∃ W0, W0 = w.alloc (.cells #[.int .i64 k, .int .u8 c, .int .u8 o, .slice a n cap] 26) := ⟨_, rfl⟩
  have hb0 := below_alloc w (.cells #[.int .i64 k, .int .u8 c, .int .u8 o, .slice a n cap] 26)
  have hn0 := heap_alloc_new w (.cells #[.int .i64 k, .int .u8 c, .int .u8 o, .slice a n cap] 26)
  have hz0 := World.size_alloc w (.cells #[.int .i64 k, .int .u8 c, .int .u8 o, .slice a n cap] 26)
  rw [← hW0] at hb0 hn0 hz0
  have b1 := below_alloc W0 (.cells #[.int .i64 0, .int .u8 0, .int .u8 0, .slice none 0 0] 32)
  have n1 := heap_alloc_new W0 (.cells #[.int .i64 0, .int .u8 0, .int .u8 0, .slice none 0 0] 32)
  obtain ⟨W1, hW1⟩ : ∃ W1, W1 = W0.alloc (.cells #[.int .i64 0, .int .u8 0, .int .u8 0, .slice none 0 0] 32) := ⟨_, rfl⟩
  rw [← hW1] at b1 n1
  rw [hz0] at n1
  have hblk := (b1.block _ (lt_of_block hn0)).trans hn0
  obtain ⟨c0, c1, c2, c3⟩ := Head.boxed4 hblk
  obtain ⟨g, hg⟩ : ∃ g, g = w.heap.size := ⟨_, rfl⟩
  rw [← hg] at n1 c0 c1 c2 c3 hz0
  obtain ⟨q0, q1, q2, q3⟩ := Head.boxed4 n1
  have f0 : ∀ o, W1.frozen? ⟨g + 1, o, none⟩ = false := fun o => by simp [World.frozen?, n1]
  have f00 := f0 0
  have f01 := f0 1
  have f02 := f0 2
  have f03 := f0 3
  have HB := Lib.hid (hb0.trans (b1.mono hb0.size))
  have HN := Lib.hid n1
  have HW0 := Lib.hid hW0.symm
  have HW1 := Lib.hid hW1.symm
  have HG := Lib.hid hg.symm
  have HG2 : Hid (w.heap.size ≤ g + 1) := Lib.hid (by omega)
  clear b1 n1 hblk hb0 hn0 hz0 hW0 hW1 hg f0
  go_enter Try.func59, Try.ntmps59
  go_upto_region 1 with fail
  rw [HW0.out, HW1.out, HG.out]
  go_wp2_with fail
  refine bodyPost_ret (results_row rfl _ _ (g + 1) _ rfl (load_rev (laid4 HN.out _ _ _ _) rfl)) rfl ?_
  exact ⟨rfl, old4 HB.out HG2.out _ _ _ _⟩
end Go.Proofs.Ytimidoaafllnkaa.Rec
