/-
  Events in memory; the contract of Write.
-/
import Derived.Test.YtimidoaafllnkaaIacC
namespace Go.Proofs.Ytimidoaafllnkaa.Iac
open Go.RowKit Base
set_option linter.unusedVariables false

/-- A row of events in memory. -/
def EvsAt (w : World) (v : Value) (L : List Ev) : Prop :=
  ∃ a cap, v = .slice a L.length cap ∧ (L ≠ [] → ∃ g off, a = some ⟨g, off, none⟩ ∧ g < w.heap.size ∧ ∀ (i : Nat) (e : Ev), L[i]? = some e →
    ∃ u, w.cell? ⟨g, off + i * 4, none⟩ = some (.int .i64 e.kind) ∧ w.cell? ⟨g, off + i * 4 + 1, none⟩ = some (.int .u8 e.code) ∧ w.cell? ⟨g, off + i * 4 + 2, none⟩ = some (.int .u8 e.option) ∧ w.cell? ⟨g, off + i * 4 + 3, none⟩ = some u ∧ RowOf .u8 w u e.bytes)
def writeL (L : List Ev) : List Int := L.flatMap writtenL
theorem writeL_snoc (A : List Ev) (e : Ev) : writeL (A ++ [e]) = writeL A ++ writtenL e := by simp [writeL]
theorem writeL_take (L : List Ev) (k : Nat) : (writeL (L.take k)).length ≤ (writeL L).length := by
  have : writeL L = writeL (L.take k) ++ writeL (L.drop k) := by
    unfold writeL
    rw [← List.flatMap_append, List.take_append_drop]
  rw [this, List.length_append]
  omega
def WriteRel (L : List Ev) (n s : Nat) (w : World) (p i : Value) (wr : World) : Prop :=
  ∃ k : Nat, k ≤ n ∧ i = .int .i64 k ∧ OwnBytes s wr p (writeL (L.take k)) ∧ Below s w wr
set_option maxRecDepth 100000 in
set_option maxHeartbeats 4000000 in
theorem write_any (v : Value) (L : List Ev) (w : World) (h : EvsAt w v L) (hb : ∀ e ∈ L, e.bytes.length ≤ 100000) (hl : (writeL L).length ≤ 1000000) (hm : L.length ≤ maxLen) :
    Calls Try.prog 17 #[v] w fun e w' => ∃ p, e = .returned p ∧ OwnBytes w.heap.size w' p (writeL L) ∧ Below w.heap.size w w' := by
  obtain ⟨i0, hi, hz0, hz1, hz2⟩ := info_parts info_byte
  unfold maxLen at hm
  obtain ⟨s, hs⟩ : ∃ s, s = w.heap.size := ⟨_, rfl⟩
  rw [← hs]
  obtain ⟨a, cap, rfl, hrow⟩ := h
  obtain ⟨n, hn⟩ : ∃ n, n = L.length := ⟨_, rfl⟩
  rw [← hn] at hm ⊢
  have HN := Lib.hid hn
  have HR := Lib.hid hrow
  have HS := Lib.hid hs
  have HBY := Lib.hid hb
  clear hn hrow hs hb
  go_enter Try.func17, Try.ntmps17
  go_wp2_with fail
  go_loopw [3, 8] (fun p i wr => WriteRel L n s w p i wr) (fun _ i _ => n - (intOf i).toNat)
  case atStart => exact ⟨0, by omega, rfl, by simpa [writeL] using OwnBytes.nil s w, by rw [HS.out]; exact Below.refl _ _⟩
  case round =>
    obtain ⟨k, hk, rfl, hown, hold⟩ := hrel
    have hsz : s ≤ wr.heap.size := by have := hold.size; have := HS.out; omega
    by_cases hkn : k < n
    · have hkl : k < L.length := by rw [← HN.out]; exact hkn
      obtain ⟨g, off, rfl, hgl, hc⟩ := HR.out (by intro e; rw [e] at hkl; simp at hkl)
      obtain ⟨q, hq⟩ : ∃ q, L[k]? = some q := ⟨_, List.getElem?_eq_getElem hkl⟩
      have htk : L.take (k + 1) = L.take k ++ [q] := by
        rw [List.take_succ_eq_append_getElem hkl]
        obtain ⟨_, e⟩ := List.getElem?_eq_some_iff.1 hq
        rw [e]
      obtain ⟨u, d0, d1, d2, d3, hu⟩ := hc k q hq
      have hgs : g < s := by rw [HS.out]; exact hgl
      have d0 := (hold.cell (p := ⟨g, off + k * 4, none⟩) hgs).trans d0
      have d1 := (hold.cell (p := ⟨g, off + k * 4 + 1, none⟩) hgs).trans d1
      have d2 := (hold.cell (p := ⟨g, off + k * 4 + 2, none⟩) hgs).trans d2
      have d3 := (hold.cell (p := ⟨g, off + k * 4 + 3, none⟩) hgs).trans d3
      have hbq := HBY.out q (List.mem_of_getElem? hq)
      have hesc : writeL (L.take (k + 1)) = writeL (L.take k) ++ writtenL q := by rw [htk, writeL_snoc]
      have hle := writeL_take L (k + 1)
      rw [hesc, List.length_append] at hle
      have hur := (hu.below (by have := hold; rw [HS.out] at this; exact this)).below (below_alloc wr (.cells #[.int .i64 q.kind, .int .u8 q.code, .int .u8 q.option, u] 26))
      have HU := Lib.hid hur
      have HESC := Lib.hid hesc
      have HOWN := Lib.hid hown
      have HOLD := Lib.hid hold
      obtain ⟨kd, cd, op, by'⟩ := q
      simp only at d0 d1 d2 d3 hbq HU
      obtain ⟨ua, ul, uc, rfl⟩ : ∃ ua ul uc, u = .slice ua ul uc := by
        obtain ⟨a', c', e', _⟩ := HU.out
        exact ⟨a', _, c', e'⟩
      clear htk hesc hc hown hold hkl hgl hq hu hur hgs
      go_wp2_with fail
      refine (written_any kd cd op (.slice ua ul uc) by' _ HU.out hbq).mono ?_
      rintro e w2 ⟨p2, rfl, R2, b2⟩
      have hs2 := b2.size
      have hbw : Below wr.heap.size wr w2 := (below_alloc wr _).trans (b2.mono (by simp))
      have HW2 := Lib.hid (HOWN.out.below hbw)
      have HO2 := Lib.hid (HOLD.out.trans (hbw.mono hsz))
      have hs2' : s ≤ w2.heap.size := by have := hbw.size; omega
      obtain ⟨m, hm1⟩ : ∃ m, m = (writeL (L.take k)).length := ⟨_, rfl⟩
      have hraw := HW2.out
      unfold OwnBytes at hraw
      rw [← hm1] at hraw hle
      have HM := Lib.hid hm1
      clear hm1 hbw b2 hs2
      rcases R2.lit with ⟨rfl, h0⟩ | ⟨g2, c2, rfl, hc2⟩
      · have HZ0 := Lib.hid h0
        clear h0 R2
        go_wp2_with (at_builtin; refine wpList_append_own_none rfl _ _ 24 rfl s 5 i0 1 Try.underlying24 hi _ _ _ rfl hraw rfl ?_)
        go_roundw
        case rel => exact ⟨k + 1, by omega, by go_num, by rw [HESC.out, HZ0.out, List.append_nil]; exact HW2.out, HO2.out⟩
        case measure => simp [intOf]; omega
      · have HC2 := Lib.hid hc2
        have hlen2 : ((writtenL ⟨kd, cd, op, by'⟩).map (Value.int .u8)).length = (writtenL ⟨kd, cd, op, by'⟩).length * 1 := by rw [List.length_map]; omega
        clear hc2 R2
        go_wp2_with (at_builtin; refine wpList_append_own _ rfl _ _ 24 rfl s 5 i0 (.int .u8 0) 1 1 Try.underlying24 hi hz0 hz1 hz2 rfl (by decide) _ _ _ rfl hraw ⟨g2, 0, none⟩ (writtenL ⟨kd, cd, op, by'⟩).length c2 ((writtenL ⟨kd, cd, op, by'⟩).map (Value.int .u8)) rfl hlen2 HC2.out (bytes_one _) (by unfold maxLen; omega) (by omega) (by omega) ?_; intro v7 w7 hown7 hgrow7 _)
        go_roundw
        case rel =>
          obtain ⟨h7, hb7⟩ := HW2.out.grown0 (X := writtenL ⟨kd, cd, op, by'⟩) (by rw [← HM.out]; exact hown7) hgrow7 HO2.out hs2'
          exact ⟨k + 1, by omega, by go_num, by rw [HESC.out]; exact h7, hb7⟩
        case measure => simp [intOf]; omega
    · obtain rfl : n = k := by omega
      rw [List.take_of_length_le (by rw [← HN.out]; exact Nat.le_refl _)] at hown
      go_wp2_with fail
      go_ret
      exact ⟨_, rfl, hown, hold⟩
end Go.Proofs.Ytimidoaafllnkaa.Iac
