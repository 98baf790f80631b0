/-
  The reference's Escape and Join: their contracts.
-/
import Derived.Test.YtimidoaafllnkaaIacA
namespace Go.Proofs.Ytimidoaafllnkaa.Iac
open Go.RowKit Base
set_option linter.unusedVariables false

theorem own_new0 {s : Nat} {w : World} (h : s ≤ w.heap.size) : OwnBytes s (w.alloc (.cells #[] 5)) (.slice (some ⟨w.heap.size, 0, none⟩) 0 0) [] :=
  ⟨rfl, .inr ⟨w.heap.size, 0, #[], rfl, h, heap_alloc_new w _, by simp, by simp [maxLen], rfl, by simp⟩⟩
def REscRel (L : List Int) (n s : Nat) (w : World) (p i : Value) (wr : World) : Prop :=
  ∃ k : Nat, k ≤ n ∧ i = .int .i64 k ∧ OwnBytes s wr p (escL (L.take k)) ∧ Below s w wr
set_option maxRecDepth 100000 in
set_option maxHeartbeats 2000000 in
theorem rescape_any (v : Value) (L : List Int) (w : World) (h : RowOf .u8 w v L) (hl : L.length ≤ 100000) :
    Calls Try.prog 13 #[v] w fun e w' => ∃ p, e = .returned p ∧ OwnBytes w.heap.size w' p (escL L) ∧ Below w.heap.size w w' := by
  obtain ⟨i0, hi, hz0, hz1, hz2⟩ := info_parts info_byte
  obtain ⟨s, hs⟩ : ∃ s, s = w.heap.size := ⟨_, rfl⟩
  rw [← hs]
  obtain ⟨a, cap, rfl, hrow⟩ := h
  obtain ⟨n, hn⟩ : ∃ n, n = L.length := ⟨_, rfl⟩
  rw [← hn] at hl ⊢
  have HN := Lib.hid hn
  have HR := Lib.hid hrow
  have HS := Lib.hid hs
  have H0 := Lib.hid (own_new0 (s := s) (w := w) (by omega))
  have HB0 := Lib.hid (below_alloc w (.cells #[] 5))
  clear hn hrow hs
  go_enter Try.func13, Try.ntmps13
  go_wp2_with fail
  go_loopw [3, 4] (fun p i wr => REscRel L n s w p i wr) (fun _ i _ => n - (intOf i).toNat)
  case atStart => exact ⟨0, by omega, rfl, by simpa [escL] using H0.out, by rw [HS.out]; exact HB0.out⟩
  case round =>
    obtain ⟨k, hk, rfl, hown, hold⟩ := hrel
    have hsz : s ≤ wr.heap.size := by have := hold.size; have := HS.out; omega
    by_cases hkn : k < n
    · have hkl : k < L.length := by rw [← HN.out]; exact hkn
      obtain ⟨g, off, rfl, hc⟩ := HR.out (by intro e; rw [e] at hkl; simp at hkl)
      have d := hc k hkl
      have hgl : g < w.heap.size := World.block_lt_of_cell? w ⟨g, off + k, none⟩ d
      have hgs : g < s := by rw [HS.out]; exact hgl
      have d := (hold.cell (p := ⟨g, off + k, none⟩) hgs).trans d
      obtain ⟨x, hx⟩ : ∃ x, x = L[k]?.getD 0 := ⟨_, rfl⟩
      rw [← hx] at d
      have htk : L.take (k + 1) = L.take k ++ [x] := by
        rw [List.take_succ_eq_append_getElem hkl, hx]
        simp [hkl]
      have hesc : escL (L.take (k + 1)) = escL (L.take k) ++ (if x = 255 then [255, 255] else [x]) := by rw [htk, escL_append]; simp [escL]
      have hle : (escL (L.take k)).length ≤ 2 * k := Nat.le_trans (escL_le _) (by rw [List.length_take]; omega)
      have HESC := Lib.hid hesc
      have HOWN := Lib.hid hown
      have HOLD := Lib.hid hold
      have HD := Lib.hid d
      have HGL := Lib.hid hgs
      obtain ⟨m, hm⟩ : ∃ m, m = (escL (L.take k)).length := ⟨_, rfl⟩
      have HM := Lib.hid hm
      rw [← hm] at hle
      have hraw := hown
      unfold OwnBytes at hraw
      rw [← hm] at hraw
      clear hx htk hesc hc hown hold hm hkl hgl hgs
      have c5 : ∀ (w5 : World), Below s w w5 → w5.cell? ⟨g, off + k, none⟩ = some (.int .u8 x) := fun w5 b5 => by
        have h1 := b5.cell (p := ⟨g, off + k, none⟩) HGL.out
        have h2 := HOLD.out.cell (p := ⟨g, off + k, none⟩) HGL.out
        exact h1.trans (h2.symm.trans HD.out)
      have HC5 := Lib.hid c5
      clear c5
      by_cases h255 : x = 255
      · subst h255
        rw [if_pos rfl] at HESC
        go_wp2_with (first
          | (at_builtin; refine wpList_append_own _ rfl _ _ 24 rfl s 5 i0 (.int .u8 0) 1 1 Try.underlying24 hi hz0 hz1 hz2 rfl (by decide) _ _ _ rfl (hraw.alloc _) ⟨wr.heap.size, 0, none⟩ 1 1 [.int .u8 255] rfl rfl (cell_one_new _ _ _) (by simp [Value.oneCell']) (by unfold maxLen; omega) (by omega) (by rw [World.size_alloc]; omega) ?_; intro v' w5 hown' hgrow _; obtain ⟨h1, h2⟩ := HOWN.out.grown (X := [255]) (by rw [← HM.out]; exact hown') hgrow HOLD.out hsz; have hz5 : s ≤ w5.heap.size := by { have := h2.size; have := HS.out; omega }; have d5 := HC5.out w5 h2; have H1 := Lib.hid h1; have H2 := Lib.hid h2; have HRAW2 := Lib.hid hown'; clear hraw h1 h2 hown' hgrow)
          | (at_builtin; refine wpList_append_own _ rfl _ _ 24 rfl s 5 i0 (.int .u8 0) 1 1 Try.underlying24 hi hz0 hz1 hz2 rfl (by decide) _ _ _ rfl (HRAW2.out.alloc _) ⟨w5.heap.size, 0, none⟩ 1 1 [.int .u8 255] rfl rfl (cell_one_new _ _ _) (by simp [Value.oneCell']) (by unfold maxLen; omega) (by omega) (by rw [World.size_alloc]; omega) ?_; intro v2 w6 hown2 hgrow2 _))
        go_roundw
        case rel =>
          obtain ⟨h3, h4⟩ := H1.out.grown (X := [255]) (by have := hown2; simp at this ⊢; rw [← HM.out]; exact this) hgrow2 H2.out (by have := HS.out; omega)
          exact ⟨k + 1, by omega, by go_num, by rw [HESC.out, show ([255, 255] : List Int) = [255] ++ [255] from rfl, ← List.append_assoc]; exact h3, h4⟩
        case measure => simp [intOf]; omega
      · have ht : (x == 255) = false := by simpa using h255
        rw [if_neg h255] at HESC
        clear h255
        go_wp2_with (at_builtin; refine wpList_append_own _ rfl _ _ 24 rfl s 5 i0 (.int .u8 0) 1 1 Try.underlying24 hi hz0 hz1 hz2 rfl (by decide) _ _ _ rfl (hraw.alloc _) ⟨wr.heap.size, 0, none⟩ 1 1 [.int .u8 x] rfl rfl (cell_one_new _ _ _) (by simp [Value.oneCell']) (by unfold maxLen; omega) (by omega) (by rw [World.size_alloc]; omega) ?_; intro v' w5 hown' hgrow _; obtain ⟨h1, h2⟩ := HOWN.out.grown (X := [x]) (by rw [← HM.out]; exact hown') hgrow HOLD.out hsz; have d5 := HC5.out w5 h2; have H1 := Lib.hid h1; have H2 := Lib.hid h2; clear hraw h1 h2 hown' hgrow)
        go_roundw
        case rel => exact ⟨k + 1, by omega, by go_num, by rw [HESC.out]; exact H1.out, H2.out⟩
        case measure => simp [intOf]; omega
    · obtain rfl : n = k := by omega
      rw [List.take_of_length_le (by rw [← HN.out]; exact Nat.le_refl _)] at hown
      go_wp2_with fail
      go_ret
      exact ⟨_, rfl, hown, hold⟩
/-- Rows of bytes in a row. -/
def Rows8 (w : World) (v : Value) (X : List (List Int)) : Prop :=
  ∃ a cap, v = .slice a X.length cap ∧ (X ≠ [] → ∃ g off, a = some ⟨g, off, none⟩ ∧ g < w.heap.size ∧ ∀ (i : Nat) (r : List Int), X[i]? = some r → ∃ u, w.cell? ⟨g, off + i, none⟩ = some u ∧ RowOf .u8 w u r)
def RJoinOut (X : List (List Int)) (n s : Nat) (w : World) (p i : Value) (wr : World) : Prop :=
  ∃ k : Nat, k ≤ n ∧ i = .int .i64 k ∧ OwnBytes s wr p (X.take k).flatten ∧ Below s w wr
def RJoinIn (A r : List Int) (s : Nat) (w : World) (p j : Value) (wr : World) : Prop :=
  ∃ k : Nat, k ≤ r.length ∧ j = .int .i64 k ∧ OwnBytes s wr p (A ++ r.take k) ∧ Below s w wr
theorem flat_le (X : List (List Int)) (k : Nat) : (X.take k).flatten.length ≤ X.flatten.length := by
  have : X.flatten = (X.take k).flatten ++ (X.drop k).flatten := by rw [← List.flatten_append, List.take_append_drop]
  rw [this, List.length_append]
  omega
set_option maxRecDepth 100000 in
set_option maxHeartbeats 2000000 in
theorem rjoin_any (v : Value) (X : List (List Int)) (w : World) (h : Rows8 w v X) (hm : X.length ≤ 100000) (hl : X.flatten.length ≤ 1000000) :
    Calls Try.prog 64 #[v] w fun e w' => ∃ p, e = .returned p ∧ OwnBytes w.heap.size w' p X.flatten ∧ Below w.heap.size w w' := by
  obtain ⟨i0, hi, hz0, hz1, hz2⟩ := info_parts info_byte
  obtain ⟨s, hs⟩ : ∃ s, s = w.heap.size := ⟨_, rfl⟩
  rw [← hs]
  obtain ⟨a, cap, rfl, hrow⟩ := h
  obtain ⟨n, hn⟩ : ∃ n, n = X.length := ⟨_, rfl⟩
  rw [← hn] at hm ⊢
  have HN := Lib.hid hn
  have HR := Lib.hid hrow
  have HS := Lib.hid hs
  have HL := Lib.hid hl
  have H0 := Lib.hid (own_new0 (s := s) (w := w) (by omega))
  have HB0 := Lib.hid (below_alloc w (.cells #[] 5))
  clear hn hrow hs hl
  go_enter Try.func64, Try.ntmps64
  go_wp2_with fail
  go_loopw [3, 4] (fun p i wr => RJoinOut X n s w p i wr) (fun _ i _ => n - (intOf i).toNat)
  case atStart => exact ⟨0, by omega, rfl, by simpa using H0.out, by rw [HS.out]; exact HB0.out⟩
  case round =>
    obtain ⟨k, hk, rfl, hown, hold⟩ := hrel
    by_cases hkn : k < n
    · have hkl : k < X.length := by rw [← HN.out]; exact hkn
      obtain ⟨g, off, rfl, hgl, hc⟩ := HR.out (by intro e; rw [e] at hkl; simp at hkl)
      obtain ⟨r, hr⟩ : ∃ r, X[k]? = some r := ⟨_, List.getElem?_eq_getElem hkl⟩
      obtain ⟨u, d, hu⟩ := hc k r hr
      have htk : (X.take (k + 1)).flatten = (X.take k).flatten ++ r := by
        rw [List.take_succ_eq_append_getElem hkl]
        obtain ⟨_, e⟩ := List.getElem?_eq_some_iff.1 hr
        rw [e]
        simp
      have hle := flat_le X (k + 1)
      rw [htk, List.length_append] at hle
      have hle : (X.take k).flatten.length + r.length ≤ 1000000 := Nat.le_trans hle HL.out
      have hgs : g < s := by rw [HS.out]; exact hgl
      obtain ⟨ua, uc, rfl, hur⟩ := hu
      obtain ⟨rl, hrl⟩ : ∃ rl, rl = r.length := ⟨_, rfl⟩
      rw [← hrl] at d hle
      have HRL := Lib.hid hrl
      have HD := Lib.hid d
      have HUR := Lib.hid hur
      have HTK := Lib.hid htk
      have HGS := Lib.hid hgs
      obtain ⟨A, hA⟩ : ∃ A, A = (X.take k).flatten := ⟨_, rfl⟩
      rw [← hA] at hown hle
      have HA := Lib.hid hA
      have HOWN := Lib.hid hown
      have HOLD := Lib.hid hold
      clear hc hr htk hgl hgs hrl d hur hkl hA hown hold
      go_wp2_with fail
      go_loopw [3, 5] (fun p j wr => RJoinIn A r s w p j wr) (fun _ j _ => rl - (intOf j).toNat)
      case atStart => exact ⟨0, by omega, rfl, by simpa using HOWN.out, HOLD.out⟩
      case round =>
        obtain ⟨j, hj, rfl, hown, hold⟩ := hrel
        have hsz : s ≤ wr.heap.size := by have := hold.size; have := HS.out; omega
        have d := (hold.cell (p := ⟨g, off + k, none⟩) HGS.out).trans HD.out
        by_cases hjr : j < rl
        · have hjl : j < r.length := by rw [← HRL.out]; exact hjr
          obtain ⟨gb, ob, rfl, hcb⟩ := HUR.out (by intro e; rw [e] at hjl; simp at hjl)
          have db := hcb j hjl
          have hgb : gb < s := by rw [HS.out]; exact World.block_lt_of_cell? w ⟨gb, ob + j, none⟩ db
          have db := (hold.cell (p := ⟨gb, ob + j, none⟩) hgb).trans db
          obtain ⟨x, hx⟩ : ∃ x, x = r[j]?.getD 0 := ⟨_, rfl⟩
          rw [← hx] at db
          have htk : A ++ r.take (j + 1) = A ++ r.take j ++ [x] := by
            rw [List.take_succ_eq_append_getElem hjl, hx]
            simp [hjl]
          have hlen : (A ++ r.take j).length ≤ 1000000 := by rw [List.length_append, List.length_take]; omega
          obtain ⟨m, hmm⟩ : ∃ m, m = (A ++ r.take j).length := ⟨_, rfl⟩
          rw [← hmm] at hlen
          have hraw := hown
          unfold OwnBytes at hraw
          rw [← hmm] at hraw
          have HM := Lib.hid hmm
          have HTK2 := Lib.hid htk
          have HOWN2 := Lib.hid hown
          have HOLD2 := Lib.hid hold
          clear hx htk hmm hown hold hcb hgb hjl
          go_wp2_with (at_builtin; refine wpList_append_own _ rfl _ _ 24 rfl s 5 i0 (.int .u8 0) 1 1 Try.underlying24 hi hz0 hz1 hz2 rfl (by decide) _ _ _ rfl (hraw.alloc _) ⟨wr.heap.size, 0, none⟩ 1 1 [.int .u8 x] rfl rfl (cell_one_new _ _ _) (by simp [Value.oneCell']) (by unfold maxLen; omega) (by omega) (by rw [World.size_alloc]; omega) ?_; intro v' w5 hown' hgrow _)
          go_roundw
          case rel =>
            obtain ⟨h1, h2⟩ := HOWN2.out.grown (X := [x]) (by rw [← HM.out]; exact hown') hgrow HOLD2.out hsz
            exact ⟨j + 1, by have := HRL.out; omega, by go_num, by rw [HTK2.out]; exact h1, h2⟩
          case measure => simp [intOf]; omega
        · have hjl : j = rl := by have := HRL.out; omega
          subst hjl
          rw [List.take_of_length_le (by rw [← HRL.out]; exact Nat.le_refl _)] at hown
          have HOWN2 := Lib.hid hown
          have HOLD2 := Lib.hid hold
          clear hown hold
          go_wp2_with fail
          go_roundw
          case rel => exact ⟨k + 1, by omega, by go_num, by rw [HTK.out, ← HA.out]; exact HOWN2.out, HOLD2.out⟩
          case measure => simp [intOf]; omega
    · obtain rfl : n = k := by omega
      rw [List.take_of_length_le (by rw [← HN.out]; exact Nat.le_refl _)] at hown
      go_wp2_with fail
      go_ret
      exact ⟨_, rfl, hown, hold⟩
end Go.Proofs.Ytimidoaafllnkaa.Iac
