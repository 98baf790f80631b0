/-
  The reference of orders: Copy, Plain, Equal.
-/
import Derived.Test.YtjeknociobbhpaaDoorOrdM
import Derived.Test.YtjeknociobbhpaaDoorSame
namespace Go.Proofs.YtjeknociobbhpaaDoor.Ord
open Go.RowKit Base
set_option linter.unusedVariables false
set_option linter.unusedSimpArgs false

theorem empty_bytes (W : World) : OwnBytes W.heap.size (W.alloc (.cells #[] 5)) (.slice (some ⟨W.heap.size, 0, none⟩) 0 0) [] :=
  ⟨rfl, .inr ⟨W.heap.size, 0, #[], rfl, Nat.le_refl _, heap_alloc_new W _, Nat.le_refl _, by simp [maxLen], rfl, rfl⟩⟩
set_option maxRecDepth 100000 in
set_option maxHeartbeats 2000000 in
theorem rcopy_any (v : Value) (L : List Int) (w : World) (h : RowOf .u8 w v L) (hm : L.length ≤ 1000000) : Calls Tryd.prog 8 #[v] w fun e w' => ∃ u, e = .returned u ∧ OwnBytes w.heap.size w' u L ∧ Below w.heap.size w w' := by
  obtain ⟨s, hs⟩ : ∃ s, s = w.heap.size := ⟨_, rfl⟩
  have h0 := empty_bytes w
  have hb0 := below_alloc w (.cells #[] 5)
  obtain ⟨W0, hW0⟩ : ∃ W0, W0 = w.alloc (.cells #[] 5) := ⟨_, rfl⟩
  rw [← hW0, ← hs] at h0
  rw [← hW0] at hb0
  have hr := h.lowK
  obtain ⟨a, c, rfl, _⟩ := h
  obtain ⟨n, hn⟩ : ∃ n, n = L.length := ⟨_, rfl⟩
  rw [← hn] at hm hr ⊢
  have HR := Lib.hid hr
  have HN := Lib.hid hn
  have HS := Lib.hid hs
  have H0 := Lib.hid h0
  have HB0 := Lib.hid hb0
  have HW0 := Lib.hid hW0.symm
  rw [← hs]
  clear hr hn hs h0 hb0 hW0
  go_enter Tryd.func8, Tryd.ntmps8
  go_upto_region 3 with fail
  rw [HW0.out, ← HS.out]
  go_loopw [3, 4] (fun v i wr => ∃ j : Nat, j ≤ n ∧ i = .int .i64 j ∧ OwnBytes s wr v (L.take j) ∧ Below s w wr) (fun _ i _ => n - (intOf i).toNat)
  case atStart => exact ⟨0, by omega, rfl, by simpa using H0.out, by rw [HS.out]; exact HB0.out⟩
  case round =>
    obtain ⟨j, hj, rfl, hown, hold⟩ := hrel
    by_cases hjn : j < n
    · have hjni : (j : Int) < (n : Int) := by omega
      have hj0 : (0 : Int) ≤ (j : Int) := Int.natCast_nonneg _
      obtain ⟨x, hxx⟩ : ∃ x, L[j]? = some x := ⟨_, List.getElem?_eq_getElem (by rw [← HN.out]; exact hjn)⟩
      have hold' : Below w.heap.size w wr := by rw [← HS.out]; exact hold
      obtain ⟨_, _, e, hc⟩ := (HR.out.below hold').row
      injection e with e1 e2 e3
      clear e2
      subst e1 e3
      obtain ⟨gg, off, rfl, hcc⟩ := hc (by intro e; rw [e] at hxx; simp at hxx)
      have hd := hcc j (by rw [← HN.out]; exact hjn)
      rw [hxx] at hd
      simp only [Option.getD_some] at hd
      have HOW := Lib.hid hown
      have HOL := Lib.hid hold
      have HX := Lib.hid hxx
      have HSZ : Hid (s ≤ wr.heap.size) := Lib.hid (by rw [HS.out]; exact hold'.size)
      have HTL : Hid ((L.take j).length = j) := Lib.hid (by rw [List.length_take]; have := HN.out; omega)
      clear hxx hc hcc hown hold hold'
      go_wp2_with (at_builtin; go_loud (refine append_row rfl _ _ rfl (HOW.out.below (below_alloc _ _)) (row_one8 _ _ _) (fun _ _ h => by cases h) rfl rfl (by have := HTL.out; simp only [List.length_singleton]; omega) (by rw [World.size_alloc]; have := HSZ.out; omega) (w0 := w) (HOL.out.alloc HSZ.out _) ?_); intro v9 W9 hown hold _ _; have HO9 := Lib.hid hown; have HL9 := Lib.hid hold; clear hown hold)
      go_roundw
      case rel => exact ⟨j + 1, by omega, by go_num, by rw [List.take_add_one, HX.out]; exact HO9.out, HL9.out⟩
      case measure => simp [intOf]; omega
    · obtain rfl : n = j := by omega
      rw [List.take_of_length_le (by rw [← HN.out]; exact Nat.le_refl _)] at hown
      have HOW := Lib.hid hown
      have HOL := Lib.hid hold
      clear hown hold
      go_wp2_with fail
      go_ret
      exact ⟨_, rfl, HOW.out, HOL.out⟩
def plainT : List Int := [0, 12, 13, 21, 25, 28, 30, 63]
theorem plainT_yes : ∀ j, j < 8 → plain (plainT[j]?.getD 0) = true := by decide
theorem plainT_no (b : Int) (hb : b < 64) (h : ∀ q, q < 8 → plainT[q]?.getD 0 ≠ b) : plain b = false := by
  have h0 := h 0 (by omega); have h1 := h 1 (by omega); have h2 := h 2 (by omega); have h3 := h 3 (by omega)
  have h4 := h 4 (by omega); have h5 := h 5 (by omega); have h6 := h 6 (by omega); have h7 := h 7 (by omega)
  simp [plainT] at h0 h1 h2 h3 h4 h5 h6 h7
  simp [plain]
  omega
theorem plainT_row (w : World) : RowOf .u8 (w.alloc (.cells #[.int .u8 0, .int .u8 12, .int .u8 13, .int .u8 21, .int .u8 25, .int .u8 28, .int .u8 30, .int .u8 63] 5)) (.slice (some ⟨w.heap.size, 0, none⟩) 8 8) plainT := by
  have h := heap_alloc_new w (.cells #[.int .u8 0, .int .u8 12, .int .u8 13, .int .u8 21, .int .u8 25, .int .u8 28, .int .u8 30, .int .u8 63] 5)
  refine ⟨_, 8, rfl, fun _ => ⟨_, 0, rfl, fun i hi => ?_⟩⟩
  have hi : i < 8 := hi
  unfold World.cell?
  rw [h]
  rcases (by omega : i = 0 ∨ i = 1 ∨ i = 2 ∨ i = 3 ∨ i = 4 ∨ i = 5 ∨ i = 6 ∨ i = 7) with rfl | rfl | rfl | rfl | rfl | rfl | rfl | rfl <;> rfl
set_option maxRecDepth 100000 in
set_option maxHeartbeats 2000000 in
theorem rplain_any (b : Int) (w : World) : Calls Tryd.prog 14 #[.int .u8 b] w fun e w' => e = .returned (.bool (plain b)) ∧ Below w.heap.size w w' := by
  by_cases h64 : 64 ≤ b
  · have : plain b = true := by simp [plain]; omega
    rw [this]
    clear this
    go_enter Tryd.func14, Tryd.ntmps14
    go_wp2_with fail
    go_ret
    exact ⟨rfl, Below.refl _ _⟩
  have hr := plainT_row w
  have hb := below_alloc w (.cells #[.int .u8 0, .int .u8 12, .int .u8 13, .int .u8 21, .int .u8 25, .int .u8 28, .int .u8 30, .int .u8 63] 5)
  obtain ⟨W1, hW1⟩ : ∃ W1, W1 = w.alloc (.cells #[.int .u8 0, .int .u8 12, .int .u8 13, .int .u8 21, .int .u8 25, .int .u8 28, .int .u8 30, .int .u8 63] 5) := ⟨_, rfl⟩
  rw [← hW1] at hr hb
  obtain ⟨g, hg⟩ : ∃ g, g = w.heap.size := ⟨_, rfl⟩
  rw [← hg] at hr
  have HR := Lib.hid hr
  have HB := Lib.hid hb
  have HW1 := Lib.hid hW1.symm
  have HG := Lib.hid hg.symm
  have HLT : Hid (b < 64) := Lib.hid (by omega)
  obtain ⟨R, hR⟩ : ∃ R, R = plain b := ⟨_, rfl⟩
  rw [← hR]
  have HRR := Lib.hid hR
  clear hr hb hW1 hg hR
  go_enter Tryd.func14, Tryd.ntmps14
  go_upto_region 5 with fail
  rw [HW1.out, HG.out]
  go_loopw [4] (fun i wr => ∃ j : Nat, j ≤ 8 ∧ i = .int .i64 j ∧ Hid (∀ q, q < j → plainT[q]?.getD 0 ≠ b) ∧ Hid (wr = W1)) (fun i _ => 8 - (intOf i).toNat)
  case atStart => exact ⟨0, by omega, rfl, Lib.hid (fun q h => absurd h (by omega)), Lib.hid rfl⟩
  case round =>
    obtain ⟨j, hj, rfl, hno, hw⟩ := hrel
    obtain rfl := hw.out
    clear hw
    by_cases hj8 : j < 8
    · have hji : (j : Int) < 8 := by omega
      have hj0 : (0 : Int) ≤ (j : Int) := Int.natCast_nonneg _
      obtain ⟨_, _, e, hc⟩ := HR.out
      obtain ⟨g', off, e4, hcc⟩ := hc (by simp [plainT])
      injection e with e1 e2 e3
      rw [← e1] at e4
      injection e4 with e4
      injection e4 with e5 e6 _
      have hd := hcc j hj8
      rw [← e5, ← e6, Nat.zero_add] at hd
      obtain ⟨x, hx⟩ : ∃ x, x = plainT[j]?.getD 0 := ⟨_, rfl⟩
      rw [← hx] at hd
      have HX := Lib.hid hx
      clear e1 e2 e3 e5 e6 hcc hc hx
      by_cases hxb : x = b
      · subst hxb
        obtain rfl : R = true := by rw [HRR.out, HX.out]; exact plainT_yes j hj8
        go_wp2_with fail
        go_ret
        exact ⟨rfl, HB.out⟩
      · have hxe : (x == b) = false := by simpa using hxb
        have HNX := Lib.hid hxb
        clear hxb
        go_wp2_with fail
        go_roundw
        case rel => exact ⟨j + 1, by omega, by go_num, Lib.hid (fun q hq => by
          by_cases hqj : q = j
          · subst hqj; rw [← HX.out]; exact HNX.out
          · exact hno.out q (by omega)), Lib.hid (by trivial)⟩
        case measure => simp [intOf]; omega
    · obtain rfl : j = 8 := by omega
      obtain rfl : R = false := by rw [HRR.out]; exact plainT_no b HLT.out hno.out
      go_wp2_with fail
      go_ret
      exact ⟨rfl, HB.out⟩
end Go.Proofs.YtjeknociobbhpaaDoor.Ord
