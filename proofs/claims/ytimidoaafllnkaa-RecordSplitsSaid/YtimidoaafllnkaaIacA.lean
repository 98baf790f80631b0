/-
  Bytes with each 255 twice: the contract of Escape.
-/
import Derived.Test.YtimidoaafllnkaaBytes
namespace Go.Proofs.Ytimidoaafllnkaa.Iac
open Go.RowKit Base
set_option linter.unusedVariables false

/-- Bytes with each 255 twice. -/
def escL (L : List Int) : List Int := L.flatMap fun x => if x = 255 then [255, 255] else [x]
theorem escL_append (A B : List Int) : escL (A ++ B) = escL A ++ escL B := by simp [escL]
theorem escL_le (L : List Int) : (escL L).length ≤ 2 * L.length := by
  induction L with
  | nil => simp [escL]
  | cons x L ih =>
    have : escL (x :: L) = (if x = 255 then [255, 255] else [x]) ++ escL L := by simp [escL]
    rw [this, List.length_append, List.length_cons]
    split <;> simp <;> omega
def EscRel (L : List Int) (n s : Nat) (w : World) (p i : Value) (wr : World) : Prop :=
  ∃ k : Nat, k ≤ n ∧ i = .int .i64 k ∧ OwnBytes s wr p (escL (L.take k)) ∧ Below s w wr
set_option maxRecDepth 100000 in
set_option maxHeartbeats 4000000 in
theorem escape_any (v : Value) (L : List Int) (w : World) (h : RowOf .u8 w v L) (hl : L.length ≤ 100000) :
    Calls Try.prog 12 #[v] w fun e w' => ∃ p, e = .returned p ∧ OwnBytes w.heap.size w' p (escL L) ∧ Below w.heap.size w w' := by
  obtain ⟨i0, hi, hz0, hz1, hz2⟩ := info_parts info_byte
  obtain ⟨s, hs⟩ : ∃ s, s = w.heap.size := ⟨_, rfl⟩
  rw [← hs]
  obtain ⟨a, cap, rfl, hrow⟩ := h
  obtain ⟨n, hn⟩ : ∃ n, n = L.length := ⟨_, rfl⟩
  rw [← hn] at hl ⊢
  have HN := Lib.hid hn
  have HR := Lib.hid hrow
  have HS := Lib.hid hs
  clear hn hrow hs
  go_enter Try.func12, Try.ntmps12
  go_wp2_with fail
  go_loopw [3, 8] (fun p i wr => EscRel L n s w p i wr) (fun _ i _ => n - (intOf i).toNat)
  case atStart => exact ⟨0, by omega, rfl, by simpa [escL] using OwnBytes.nil s w, by rw [HS.out]; exact Below.refl _ _⟩
  case round =>
    obtain ⟨k, hk, rfl, hown, hold⟩ := hrel
    have hsz : s ≤ wr.heap.size := by have := hold.size; have := HS.out; omega
    by_cases hkn : k < n
    · have hkl : k < L.length := by rw [← HN.out]; exact hkn
      obtain ⟨g, off, rfl, hc⟩ := HR.out (by intro e; rw [e] at hkl; simp at hkl)
      have d := hc k hkl
      have hgl : g < w.heap.size := World.block_lt_of_cell? w ⟨g, off + k, none⟩ d
      have d := (hold.cell (p := ⟨g, off + k, none⟩) (by show g < s; rw [HS.out]; exact hgl)).trans d
      obtain ⟨x, hx⟩ : ∃ x, x = L[k]?.getD 0 := ⟨_, rfl⟩
      rw [← hx] at d
      have htk : L.take (k + 1) = L.take k ++ [x] := by
        rw [List.take_succ_eq_append_getElem hkl, hx]
        simp [hkl]
      have hesc : escL (L.take (k + 1)) = escL (L.take k) ++ (if x = 255 then [255, 255] else [x]) := by rw [htk, escL_append]; simp [escL]
      have hle : (escL (L.take k)).length ≤ 2 * k := Nat.le_trans (escL_le _) (by rw [List.length_take]; omega)
      have HESC := Lib.hid hesc
      have HOWN := Lib.hid hown
      have HOLD := Lib.hid hold
      obtain ⟨m, hm⟩ : ∃ m, m = (escL (L.take k)).length := ⟨_, rfl⟩
      have HM := Lib.hid hm
      rw [← hm] at hle
      have hraw := hown
      unfold OwnBytes at hraw
      rw [← hm] at hraw
      clear hx htk hesc hc hown hold hm hkl hgl
      by_cases h255 : x = 255
      · subst h255
        rw [if_pos rfl] at HESC
        go_wp2_with (first
          | (at_builtin; refine wpList_append_own _ rfl _ _ 24 rfl s 5 i0 (.int .u8 0) 1 1 Try.underlying24 hi hz0 hz1 hz2 rfl (by decide) _ _ _ rfl (hraw.alloc _) ⟨wr.heap.size, 0, none⟩ 1 1 [.int .u8 255] rfl rfl (cell_one_new _ _ _) (by simp [Value.oneCell']) (by unfold maxLen; omega) (by omega) (by rw [World.size_alloc]; omega) ?_; intro v' w5 hown' hgrow _; obtain ⟨h1, h2⟩ := HOWN.out.grown (X := [255]) (by rw [← HM.out]; exact hown') hgrow HOLD.out hsz; have hz5 : s ≤ w5.heap.size := by { have := h2.size; have := HS.out; omega }; have H1 := Lib.hid h1; have H2 := Lib.hid h2; have HRAW2 := Lib.hid hown'; clear hraw h1 h2 hown' hgrow)
          | (at_builtin; refine wpList_append_own _ rfl _ _ 24 rfl s 5 i0 (.int .u8 0) 1 1 Try.underlying24 hi hz0 hz1 hz2 rfl (by decide) _ _ _ rfl (HRAW2.out.alloc _) ⟨w5.heap.size, 0, none⟩ 1 1 [.int .u8 255] rfl rfl (cell_one_new _ _ _) (by simp [Value.oneCell']) (by unfold maxLen; omega) (by omega) (by rw [World.size_alloc]; omega) ?_; intro v2 w6 hown2 hgrow2 _))
        go_roundw
        case rel =>
          obtain ⟨h3, h4⟩ := H1.out.grown (X := [255]) (by have := hown2; simp at this ⊢; rw [← HM.out]; exact this) hgrow2 H2.out (by have := HS.out; omega)
          exact ⟨k + 1, by omega, by go_num, by rw [HESC.out, show ([255, 255] : List Int) = [255] ++ [255] from rfl, ← List.append_assoc]; exact h3, h4⟩
        case measure => simp [intOf]; omega
      · have ht : (x == 255) = false := by simpa using h255
        rw [if_neg h255] at HESC
        clear h255
        go_wp2_with (at_builtin; refine wpList_append_own _ rfl _ _ 24 rfl s 5 i0 (.int .u8 0) 1 1 Try.underlying24 hi hz0 hz1 hz2 rfl (by decide) _ _ _ rfl (hraw.alloc _) ⟨wr.heap.size, 0, none⟩ 1 1 [.int .u8 x] rfl rfl (cell_one_new _ _ _) (by simp [Value.oneCell']) (by unfold maxLen; omega) (by omega) (by rw [World.size_alloc]; omega) ?_; intro v' w5 hown' hgrow _; clear hraw)
        go_roundw
        case rel =>
          obtain ⟨h1, h2⟩ := HOWN.out.grown (X := [x]) (by rw [← HM.out]; exact hown') hgrow HOLD.out hsz
          exact ⟨k + 1, by omega, by go_num, by rw [HESC.out]; exact h1, h2⟩
        case measure => simp [intOf]; omega
    · obtain rfl : n = k := by omega
      rw [List.take_of_length_le (by rw [← HN.out]; exact Nat.le_refl _)] at hown
      go_wp2_with fail
      go_ret
      exact ⟨_, rfl, hown, hold⟩
end Go.Proofs.Ytimidoaafllnkaa.Iac
