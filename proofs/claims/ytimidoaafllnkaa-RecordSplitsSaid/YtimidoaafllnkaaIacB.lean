/-
  The contract of Record.
-/
import Derived.Test.YtimidoaafllnkaaIacT
namespace Go.Proofs.Ytimidoaafllnkaa.Iac
open Go.RowKit Base
set_option linter.unusedVariables false

set_option maxRecDepth 100000 in
set_option maxHeartbeats 4000000 in
theorem record_any (v : Value) (L : List Int) (w : World) (h : RowOf .u8 w v L) (hl : L.length ≤ 100000) :
    Calls Try.prog 16 #[v] w fun e w' => ∃ p, e = .returned p ∧ OwnBytes w.heap.size w' p (escL L ++ [255, 239]) ∧ Below w.heap.size w w' := by
  obtain ⟨i0, hi, hz0, hz1, hz2⟩ := info_parts info_byte
  obtain ⟨s, hs⟩ : ∃ s, s = w.heap.size := ⟨_, rfl⟩
  rw [← hs]
  have HS := Lib.hid hs
  have H := Lib.hid h
  clear hs h
  go_enter Try.func16, Try.ntmps16
  go_wp2_with fail
  refine (escape_any v L w H.out hl).mono ?_
  rintro e w1 ⟨p, rfl, R1, b1⟩
  have hraw := R1
  have hle := escL_le L
  have hsz := b1.size
  obtain ⟨m, hm⟩ : ∃ m, m = (escL L).length := ⟨_, rfl⟩
  unfold OwnBytes at hraw
  rw [← hm] at hraw hle
  have HM := Lib.hid hm
  have HR1 := Lib.hid R1
  have HB1 := Lib.hid b1
  have HCL := Lib.hid (two_cl w1 255 239)
  have hs1 : w.heap.size ≤ w1.heap.size := hsz
  clear hm R1 b1 hsz
  go_wp2_with (at_builtin; refine wpList_append_own _ rfl _ _ 24 rfl w.heap.size 5 i0 (.int .u8 0) 1 1 Try.underlying24 hi hz0 hz1 hz2 rfl (by decide) _ _ _ rfl (hraw.alloc _) ⟨w1.heap.size, 0, none⟩ 2 2 [.int .u8 255, .int .u8 239] rfl rfl HCL.out (by simp [Value.oneCell']) (by unfold maxLen; omega) (by omega) (by rw [World.size_alloc]; omega) ?_; intro v' w5 hown' hgrow _; clear hraw)
  go_ret
  obtain ⟨h1, h2⟩ := HR1.out.grown (X := [255, 239]) (by rw [← HM.out]; exact hown') hgrow HB1.out hs1
  rw [HS.out]
  exact ⟨_, rfl, h1, h2⟩
end Go.Proofs.Ytimidoaafllnkaa.Iac
