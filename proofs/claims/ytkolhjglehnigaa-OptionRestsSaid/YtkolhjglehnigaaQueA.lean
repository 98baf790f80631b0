/-
  A queue of rows: a slice that is cut from its beginning, and to which a row is appended.
-/
import Derived.Test.YtkolhjglehnigaaAppRow
import Derived.Test.YtkolhjglehnigaaBytes
namespace Go.Proofs.Ytkolhjglehnigaa.Que
open Go.RowKit Base
set_option linter.unusedVariables false

theorem info_row : (Try.prog.info? 24).map (fun i => (i.zero, i.size, i.bytes)) = some (some (.slice none 0 0), 1, 24) := by kernel_rfl
/-- A queue in memory: its values; its own block, from s on, holds no byte. -/
def QRow (s : Nat) (w : World) (v : Value) (us : List Value) : Prop :=
  (us = [] ∧ ∃ a, v = .slice a 0 0) ∨ ∃ g off cap cur, v = .slice (some ⟨g, off, none⟩) us.length cap ∧ s ≤ g ∧ w.heap[g]? = some (.cells cur 24 (0, 0)) ∧ 0 < cap ∧ us.length ≤ cap ∧ off + cap ≤ cur.size ∧ cap ≤ maxLen ∧ (cur.toList.drop off).take us.length = us ∧ ∀ (j : Nat) (k : Int), cur[j]? ≠ some (.int .u8 k)
/-- Its block. -/
def blk : Value → Option Nat
  | .slice (some a) _ c => if c = 0 then none else some a.block
  | _ => none
theorem blk_slice (a : Addr) (n c : Nat) : blk (.slice (some a) n c) = if c = 0 then none else some a.block := rfl
section
variable {s : Nat} {w w' : World} {v : Value} {us : List Value}
theorem QRow.block (h : QRow s w v us) : ∀ g, blk v = some g → s ≤ g ∧ g < w.heap.size ∧ ∀ o k, w.cell? ⟨g, o, none⟩ ≠ some (.int .u8 k) := by
  intro g e
  rcases h with ⟨_, a, rfl⟩ | ⟨g', off, cap, cur, rfl, hs, hg, hc, _, _, _, _, hno⟩
  · cases a <;> simp [blk] at e
  · rw [blk_slice, if_neg (by omega)] at e
    injection e with e
    have e : g' = g := e
    subst e
    exact ⟨hs, lt_of_block hg, fun o k => by simp [World.cell?, hg]; exact hno o k⟩
theorem QRow.keep (h : QRow s w v us) (u : ∀ g, blk v = some g → w'.heap[g]? = w.heap[g]?) : QRow s w' v us := by
  rcases h with h | ⟨g, off, cap, cur, rfl, hs, hg, hc, rest⟩
  · exact .inl h
  · refine .inr ⟨g, off, cap, cur, rfl, hs, (u g ?_).trans hg, hc, rest⟩
    rw [blk_slice, if_neg (by omega)]
theorem QRow.form (h : QRow s w v us) : ∃ a c, v = .slice a us.length c := by
  rcases h with ⟨rfl, a, rfl⟩ | ⟨g, off, cap, cur, rfl, _⟩
  · exact ⟨a, 0, rfl⟩
  · exact ⟨_, _, rfl⟩
theorem QRow.nil (s : Nat) (w : World) : QRow s w (.slice none 0 0) [] := .inl ⟨rfl, none, rfl⟩
/-- Its values. -/
theorem QRow.get (h : QRow s w v us) (i : Nat) (u : Value) (hi : us[i]? = some u) : ∃ g off cap, v = .slice (some ⟨g, off, none⟩) us.length cap ∧ us.length ≤ cap ∧ w.cell? ⟨g, off + i, none⟩ = some u := by
  rcases h with ⟨rfl, _⟩ | ⟨g, off, cap, cur, rfl, hs, hg, hc, hl, hf, _, ht, _⟩
  · simp at hi
  · refine ⟨g, off, cap, rfl, hl, ?_⟩
    obtain ⟨hlt, _⟩ := List.getElem?_eq_some_iff.1 hi
    rw [← ht, List.getElem?_take_of_lt (by rw [ht] at *; exact hlt), List.getElem?_drop] at hi
    simp [World.cell?, hg]
    simpa using hi
/-- Cut from its beginning. -/
theorem QRow.rest {u : Value} {g off cap : Nat} (h : QRow s w (.slice (some ⟨g, off, none⟩) (us.length + 1) cap) (u :: us)) (hc : 1 < cap) : QRow s w (.slice (some ⟨g, off + 1, none⟩) us.length (cap - 1)) us := by
  rcases h with ⟨h0, _⟩ | ⟨g', off', cap', cur, e, hs, hg, hc0, hl, hf, hm, ht, hno⟩
  · cases h0
  · injection e with e1 e2 e3
    injection e1 with e1
    injection e1 with e4 e5
    subst e3 e4 e5
    refine .inr ⟨_, _, _, cur, rfl, hs, hg, by omega, by simp at hl; omega, by omega, by omega, ?_, hno⟩
    have h1 : (cur.toList.drop (off + 1)) = (cur.toList.drop off).drop 1 := by rw [List.drop_drop]
    rw [h1]
    have h2 : ((cur.toList.drop off).take (us.length + 1)).drop 1 = us := by rw [show us.length + 1 = (u :: us).length from rfl, ht]; rfl
    rw [List.drop_take] at h2
    exact h2
theorem QRow.vals (h : QRow s w v us) : ∀ x ∈ us, ∀ k, x ≠ .int .u8 k := by
  intro x hx k e
  rcases h with ⟨rfl, _⟩ | ⟨g, off, cap, cur, rfl, _, _, _, _, _, _, ht, hno⟩
  · cases hx
  · rw [← ht] at hx
    have := List.mem_of_mem_drop (List.mem_of_mem_take hx)
    obtain ⟨j, hj, he⟩ := List.getElem_of_mem this
    refine hno j k ?_
    rw [← e, ← he]
    simp
theorem zero_no (n : Nat) : ∀ x ∈ (Builtin.zeroCells (Value.cells (.slice none 0 0)) n).toList, ∀ k, x ≠ .int .u8 k := by
  intro x hx k e
  subst e
  simp [Builtin.zeroCells, Value.cells, Nat.mod_one] at hx
/-- A value appended. -/
theorem run_q (h : QRow s w v us) (hs : s ≤ w.heap.size) (ty : TypeId) (ga c : Nat) (u : Value) (hu : w.cell? ⟨ga, 0, none⟩ = some u) (h1 : u.oneCell' = true) (hub : ∀ k, u ≠ .int .u8 k) (hl : us.length ≤ 100000) :
    ∃ v' w', (Builtin.append_ #[46, 46] ty #[v, .slice (some ⟨ga, 0, none⟩) 1 c]).run Try.prog w = .ok v' w' ∧ QRow s w' v' (us ++ [u]) ∧ w.grownBy w' (blk v) ∧ (blk v' = blk v ∨ ∃ g, blk v' = some g ∧ w.heap.size ≤ g) := by
  obtain ⟨i0, hi, hz0, hz1, hz2⟩ := info_parts info_row
  have ht : Try.prog.underlying 46 = some (.slice 24) := Try.underlying46
  have hvals := h.vals
  have hnews : ∀ (j : Nat) (x : Value), ([u] : List Value)[j]? = some x → w.cell? ((⟨ga, 0, none⟩ : Addr).add j) = some x := by
    intro j x hx
    obtain ⟨hj, he⟩ := List.getElem?_eq_some_iff.1 hx
    obtain rfl : j = 0 := by simpa using hj
    simp at he
    subst he
    rw [add_off]; exact hu
  have hlen : (us ++ [u]).length = us.length + 1 := by simp
  have grown : ∀ (old : Nat) (row : Option Nat), QRow s (w.drew.alloc (.cells (us.toArray ++ [u].toArray ++ Builtin.zeroCells (Value.cells (.slice none 0 0)) (grownCap w (us.length + 1) old 24 - (us.length + 1))) 24)) (.slice (some ⟨w.heap.size, 0, none⟩) (us.length + 1) (grownCap w (us.length + 1) old 24)) (us ++ [u]) ∧
      w.grownBy (w.drew.alloc (.cells (us.toArray ++ [u].toArray ++ Builtin.zeroCells (Value.cells (.slice none 0 0)) (grownCap w (us.length + 1) old 24 - (us.length + 1))) 24)) row := by
    intro old row
    have hge := grownCap_ge w (us.length + 1) old 24
    have hcm : grownCap w (us.length + 1) old 24 ≤ maxLen := grownCap_le_maxLen w (us.length + 1) old 24 (by unfold maxLen; omega)
    refine ⟨.inr ⟨w.heap.size, 0, _, _, by rw [hlen], hs, heap_alloc_new w.drew _, by omega, by rw [hlen]; exact hge, ?_, hcm, ?_, ?_⟩, ⟨rfl, rfl, rfl, by simp, fun k hk _ => Below.heap_alloc w.drew _ k hk⟩⟩
    · simp only [Array.size_append, List.size_toArray, size_zeroCells, List.length_cons, List.length_nil]
      have : (Value.cells (.slice none 0 0)).size = 1 := rfl
      rw [this]
      omega
    · rw [List.drop_zero]
      simp only [Array.toList_append]
      exact List.take_left
    · intro j k hj
      have hm := Array.mem_of_getElem? hj
      rw [← Array.mem_toList_iff] at hm
      simp only [Array.toList_append, List.mem_append] at hm
      rcases hm with (hm | hm) | hm
      · exact hvals _ hm k rfl
      · exact hub k (List.mem_singleton.1 hm).symm
      · exact zero_no _ _ hm k rfl
  rcases h with ⟨rfl, a, rfl⟩ | ⟨g, off, cap, cur, rfl, hsg, hg, hc0, hlc, hf, hm, htk, hno⟩
  · cases a with
    | none =>
      have hr := run_append_nil (P := Try.prog) w 46 ty 24 i0 (.slice none 0 0) ht hi hz0 ⟨ga, 0, none⟩ 1 c [u] (by rw [hz1]; rfl) hnews (by omega) (by omega) (by rw [hz2]; omega)
      obtain ⟨g1, g2⟩ := grown 0 (blk (.slice none 0 0))
      exact ⟨_, _, hr, by simpa using g1, by simpa using g2, .inr ⟨w.heap.size, by rw [blk_slice, if_neg (by have := grownCap_ge w 1 0 24; have := grownCap_ge w (0 + 1) 0 24; omega)], Nat.le_refl _⟩⟩
    | some b =>
      have hr := run_append_grow (P := Try.prog) w 46 ty 24 i0 (.slice none 0 0) ht hi hz0 b 0 0 [] (by simp) (fun j x hx => by simp at hx) ⟨ga, 0, none⟩ 1 c [u] (by rw [hz1]; rfl) hnews (by omega) (by omega) (growslice_fits (by omega) (by rw [hz2]; omega))
      obtain ⟨g1, g2⟩ := grown 0 (blk (.slice (some b) 0 0))
      exact ⟨_, _, hr, by simpa using g1, by simpa using g2, .inr ⟨w.heap.size, by rw [blk_slice, if_neg (by have := grownCap_ge w 1 0 24; have := grownCap_ge w (0 + 1) 0 24; omega)], Nat.le_refl _⟩⟩
  · by_cases hroom : us.length + 1 ≤ cap
    · have hst := run_storeCells_at Try.prog g (off + us.length) 24 [u] 0 cur w hg (by rw [List.length_singleton]; omega) (by simpa using h1)
      have hff := run_firstCells_some (P := Try.prog) w i0.size 1 ⟨ga, 0, none⟩ 1 c [u] (by rw [hz1]; rfl) hnews
      have hadd : (⟨g, off, none⟩ : Addr).add us.length = ⟨g, off + us.length, none⟩ := add_off g off us.length
      refine ⟨.slice (some ⟨g, off, none⟩) (us.length + 1) cap, w.setRow g (cur.toList.take (off + us.length) ++ [u] ++ cur.toList.drop (off + us.length + 1)).toArray, ?_, ?_, ?_, .inl (by rw [blk_slice, blk_slice])⟩
      · simp only [Nat.add_zero, List.length_cons, List.length_nil, Nat.zero_add] at hst
        rw [hz1] at hff
        simp [Builtin.append_, run_underlying ht, sizeOf, typeInfo, hi, hz1, Builtin.lenOf, hroom, hff, hadd, hst]
      · refine .inr ⟨g, off, cap, _, by rw [hlen], hsg, setRow_heap w g cur _ 24 _ hg, hc0, by rw [hlen]; exact hroom, ?_, hm, ?_, ?_⟩
        · simp only [List.size_toArray, List.length_append, List.length_take, List.length_drop, Array.length_toList, List.length_cons, List.length_nil]
          omega
        · rw [hlen]
          have hT : (cur.toList.take (off + us.length)).drop off = us := by rw [List.drop_take, show off + us.length - off = us.length by omega, htk]
          have hl1 : off ≤ (cur.toList.take (off + us.length)).length := by have hq : cur.toList.length = cur.size := rfl; rw [List.length_take, hq]; omega
          rw [List.append_assoc, List.drop_append_of_le_length hl1, hT]
          rw [List.take_append, List.take_of_length_le (by omega), show us.length + 1 - us.length = 1 by omega]
          simp
        · intro j k hj
          have hmm := Array.mem_of_getElem? hj
          rw [← Array.mem_toList_iff] at hmm
          simp only [List.mem_append] at hmm
          have hcur : ∀ x ∈ cur.toList, ∀ k, x ≠ .int .u8 k := by
            intro x hx k e
            obtain ⟨j, hj, he⟩ := List.getElem_of_mem hx
            exact hno j k (by rw [← e, ← he]; simp)
          rcases hmm with (hmm | hmm) | hmm
          · exact hcur _ (List.mem_of_mem_take hmm) k rfl
          · exact hub k (List.mem_singleton.1 hmm).symm
          · exact hcur _ (List.mem_of_mem_drop hmm) k rfl
      · refine ⟨rfl, rfl, rfl, by simp, fun k _ hk => setRow_other w g k _ fun e => hk ?_⟩
        rw [blk_slice, if_neg (by omega), e]
    · have holds : ∀ (j : Nat) (x : Value), us[j]? = some x → w.cell? ((⟨g, off, none⟩ : Addr).add j) = some x := by
        intro j x hx
        obtain ⟨hlt, _⟩ := List.getElem?_eq_some_iff.1 hx
        rw [add_off]
        rw [← htk, List.getElem?_take_of_lt hlt, List.getElem?_drop] at hx
        simp [World.cell?, hg]
        simpa using hx
      have hr := run_append_grow (P := Try.prog) w 46 ty 24 i0 (.slice none 0 0) ht hi hz0 ⟨g, off, none⟩ us.length cap us (by rw [hz1]; omega) holds ⟨ga, 0, none⟩ 1 c [u] (by rw [hz1]; rfl) hnews (by omega) (by omega) (growslice_fits (by omega) (by rw [hz2]; omega))
      obtain ⟨g1, g2⟩ := grown cap (blk (.slice (some ⟨g, off, none⟩) us.length cap))
      exact ⟨_, _, hr, g1, g2, .inr ⟨w.heap.size, by rw [blk_slice, if_neg (by have := grownCap_ge w (us.length + 1) cap 24; omega)], Nat.le_refl _⟩⟩
end
end Go.Proofs.Ytkolhjglehnigaa.Que
