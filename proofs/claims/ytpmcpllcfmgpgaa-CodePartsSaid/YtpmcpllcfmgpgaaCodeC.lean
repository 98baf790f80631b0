/-
  Contracts of bytesBySign and Byte of package code.
-/
import Derived.Test.YtpmcpllcfmgpgaaCodeB
import Derived.Maps.OwnSet
namespace Go.Proofs.Ytpmcpllcfmgpgaa.Code
open Go.RowKit Go.Maps
set_option linter.unusedVariables false

/-! ### The page the other way round -/
def mapOf (L : List Int) : Nat → DataW Unit
  | 0 => .map []
  | k + 1 => (mapOf L k).put (.int .i32 (L[k]?.getD 0)) (.lit (.int .u8 k))
theorem mapOf_isMap (L : List Int) : ∀ k, IsMap (mapOf L k)
  | 0 => isMap_empty
  | k + 1 => (mapOf_isMap L k).put _ _
theorem key_i32 (r : Int) : WideAt.IsKeyLit (.int .i32 r) := by simp [WideAt.IsKeyLit]
theorem mapOf_at (L : List Int) (hd : L.Nodup) (r : Int) (z : DataW Unit) : ∀ k, k ≤ L.length → (mapOf L k).atKey (.int .i32 r) z = if L.idxOf r < k then .lit (.int .u8 (L.idxOf r)) else z
  | 0, _ => by simp [mapOf, DataW.atKey]
  | k + 1, hk => by
    have ih := mapOf_at L hd r z k (by omega)
    have hget : L[k]?.getD 0 = L[k] := by simp [show k < L.length by omega]
    unfold mapOf
    rw [hget]
    by_cases e : r = L[k]
    · subst e
      rw [atKey_put_same (mapOf_isMap L k) (key_i32 _), List.Nodup.idxOf_getElem hd, if_pos (by omega)]
    · rw [atKey_put_other (by intro h; cases h; exact e rfl), ih]
      have hne : L.idxOf r ≠ k := by
        intro h
        apply e
        have h2 : L.idxOf r < L.length := by omega
        have h3 := List.getElem_idxOf h2
        simp only [h] at h3
        exact h3.symm
      by_cases hlt : L.idxOf r < k
      · rw [if_pos hlt, if_pos (by omega)]
      · rw [if_neg hlt, if_neg (by omega)]
theorem mapOf_has (L : List Int) (hd : L.Nodup) (r : Int) (k : Nat) (hk : k ≤ L.length) : has (mapOf L k) (.int .i32 r) = decide (L.idxOf r < k) := by
  by_cases h : L.idxOf r < k
  · rw [decide_eq_true h]
    exact has_true_of_atKey (y := .lit (.int .u8 (L.idxOf r))) (fun z => by rw [mapOf_at L hd r z k hk, if_pos h])
  · rw [decide_eq_false h]
    exact has_false_of_atKey (fun z => by rw [mapOf_at L hd r z k hk, if_neg h])
theorem p37_nodup : p37.Nodup := by
  have : (decide p37.Nodup) = true := by kernel_rfl
  exact of_decide_eq_true this
theorem p500_nodup : p500.Nodup := by
  have : (decide p500.Nodup) = true := by kernel_rfl
  exact of_decide_eq_true this
theorem p1047_nodup : p1047.Nodup := by
  have : (decide p1047.Nodup) = true := by kernel_rfl
  exact of_decide_eq_true this
theorem tabl_nodup (page : Int) : (tabl page).Nodup := by
  unfold tabl
  split
  · exact p500_nodup
  · split
    · exact p1047_nodup
    · exact p37_nodup

theorem run_index_tab (L : List Int) (hL : L.length = 256) (k : Nat) (hk : k < 256) (w : World) : (Instr.index 25 (.agg (tab L)) (.int .i64 (k : Int))).run Try.prog w = .ok (.int .i32 (L[k]?.getD 0)) w := by
  have a3 := Try.isAgg21
  have z3 := Try.sizeOf21
  have hg := tab_get L k (by omega)
  have h0 : (0 : Int) ≤ (k : Int) ∧ (k : Int) < 256 := by omega
  simp [Instr.index, run_underlying Try.underlying25, asIntOf, h0, go_sem, hg]
  intro h; omega

theorem zero_u8 (w : World) : (zeroValue 5).run Try.prog w = .ok (.int .u8 0) w := by kernel_rfl

def MapMade (w : World) (L : List Int) (e : Ending) (w' : World) : Prop :=
  ∃ B, e = .returned (.map (some B)) ∧ w'.ownsMap Try.prog 21 (plainElem Try.prog 5) B 256 (mapOf L 256) ∧ w.heap.size ≤ B ∧ Below w.heap.size w w'
theorem wf_i32 {x : Int} (h : 0 ≤ x ∧ x ≤ 255) : (Lit.int .i32 x).wf = true := WalkArith.wf_i32 (by omega)
theorem wf_u8 {x : Int} (h : 0 ≤ x ∧ x ≤ 255) : (Lit.int .u8 x).wf = true := by simp [Lit.wf, IntKind.min, IntKind.max, IntKind.bits, IntKind.signed]; omega

set_option maxHeartbeats 1000000 in
theorem bySign_any (page : Int) (w : World) :
    Calls Try.prog 50 #[.int .i64 page] w (MapMade w (tabl page)) := by
  obtain ⟨L, hL⟩ : ∃ L, L = tabl page := ⟨_, rfl⟩
  have hlen : L.length = 256 := by rw [hL]; exact tabl_length page
  have hbd : Hid (∀ x ∈ L, 0 ≤ x ∧ x ≤ 255) := by rw [hL]; exact tabl_bd page
  have hT : Hid (∀ w, Calls Try.prog 17 #[.int .i64 page] w fun e w' => e = .returned (.agg (tab L)) ∧ Below w.heap.size w w') := by
    intro w; rw [hL]; exact table_any page w
  have HLEN := Lib.hid hlen
  rw [← hL]
  clear hL hlen
  have hmm : ∀ w : World, (Instr.makeMap 72 (some (.int .i64 256))).run Try.prog w = .ok (.map (some w.heap.size)) (w.alloc (.map #[] 0)) := fun _ => by kernel_rfl
  go_enter Try.func50, Try.ntmps50
  go_wp2_with fail
  refine (hT.out _).mono ?_
  rintro e w1 ⟨rfl, hb1⟩
  have hsz : w.heap.size < w1.heap.size := by have := hb1.size; rw [World.size_alloc] at this; omega
  have hown0 : w1.ownsMap Try.prog 21 (plainElem (H := Unit) Try.prog 5) w.heap.size 0 (mapOf L 0) :=
    (World.ownsMap_made w _ _ _).kept (row := none) ⟨hb1.os, hb1.tape, hb1.output, hb1.size, fun k hk _ => hb1.block k hk⟩ (by simp)
  have B1 := below_box1 hb1
  clear hb1
  go_wp2_with fail
  go_loopw [9] (fun i wr => ∃ k : Nat, k ≤ 256 ∧ i = .int .i64 k ∧ wr.ownsMap Try.prog 21 (plainElem (H := Unit) Try.prog 5) w.heap.size k (mapOf L k) ∧ Below w.heap.size w wr) (fun i _ => 256 - (intOf i).toNat)
  case atStart => exact ⟨0, by omega, rfl, hown0, B1⟩
  case round =>
    obtain ⟨k, hk, rfl, hown, hB⟩ := hrel
    by_cases hlt : k < 256
    · have hk1 : (k : Int) < 256 := by omega
      obtain ⟨x, hx⟩ : ∃ x, x = L[k]?.getD 0 := ⟨_, rfl⟩
      have hix := fun w => run_index_tab L HLEN.out k hlt w
      rw [← hx] at hix
      have hxm : x ∈ L := by rw [hx, List.getElem?_eq_getElem (by rw [HLEN.out]; exact hlt)]; exact List.getElem_mem _
      have hxb := hbd.out x hxm
      have hkey : keyOf Try.prog 21 (.int .i32 x) = some (.int .i32 x) := keyOf_int_mk Try.underlying21 (wf_i32 hxb)
      have hval : plainElem (H := Unit) Try.prog 5 (.int .u8 k) = some (.lit (.int .u8 k), []) := plainElem_int Try.underlying5 (wf_u8 (by omega))
      have HX := Lib.hid hx
      have HKEY := Lib.hid hkey
      have HVAL := Lib.hid hval
      clear hx hxm hxb hkey hval
      go_wp2_with (at_mapUpdate; refine wpList_mapUpdate_own _ rfl _ _ _ 72 rfl 21 5 (int_keyed Try.underlying21) Try.underlying72 _ w.heap.size k _ rfl hown (by unfold maxLen; omega) _ _ _ rfl rfl HKEY.out _ [] HVAL.out ?_; intro w2 hown2 hgrow2)
      go_roundw
      case rel =>
        refine ⟨k + 1, by omega, by go_num, ?_, hB.grown hgrow2 hB.size (fun j e => by cases e; omega)⟩
        have e : mapOf L (k + 1) = (mapOf L k).put (.int .i32 x) (.lit (.int .u8 k)) := by rw [HX.out]; rfl
        rw [e]; exact hown2
      case measure => simp [intOf]; omega
    · obtain rfl : k = 256 := by omega
      go_wp2_with fail
      go_ret
      exact ⟨_, rfl, hown, Nat.le_refl _, hB⟩

/-! ### Byte -/
/-- The byte of a sign (0, if none has it); is there one? -/
def byt (page r : Int) : Int := if (tabl page).idxOf r < 256 then ((tabl page).idxOf r : Nat) else 0
def hasb (page r : Int) : Bool := decide ((tabl page).idxOf r < 256)
theorem byt_bd (page r : Int) : 0 ≤ byt page r ∧ byt page r ≤ 255 := by
  unfold byt; split <;> omega
theorem hasb_far (page r : Int) (h : r < 0 ∨ 255 < r) : hasb page r = false ∧ byt page r = 0 := by
  have hm : r ∉ tabl page := fun hm => by have := tabl_bd page r hm; omega
  have h2 : ¬ (tabl page).idxOf r < 256 := by
    rw [← tabl_length page, List.idxOf_lt_length_iff]; exact hm
  exact ⟨decide_eq_false h2, by unfold byt; rw [if_neg h2]⟩
theorem ret_byte {a a' : Int} {b b' : Bool} (h : a' = a ∧ b' = b) : Ending.returned (.tuple #[.int .u8 a, .bool b]) = .returned (.tuple #[.int .u8 a', .bool b']) := by
  obtain ⟨rfl, rfl⟩ := h; rfl

set_option maxHeartbeats 1000000 in
theorem byte_any (page r : Int) (w : World) (hr : (Lit.int .i32 r).wf = true) :
    Calls Try.prog 15 #[.int .i64 page, .int .i32 r] w fun e w' => e = .returned (.tuple #[.int .u8 (byt page r), .bool (hasb page r)]) ∧ Below w.heap.size w w' := by
  by_cases h1 : r < 0
  · obtain ⟨e1, e2⟩ := hasb_far page r (.inl h1)
    have E1 := Lib.hid e1
    have E2 := Lib.hid e2
    clear e1 e2
    go_enter Try.func15, Try.ntmps15
    go_wp2_with fail
    go_ret2
    exact ⟨ret_byte ⟨E2.out, E1.out⟩, Below.refl _ _⟩
  · by_cases h2 : 255 < r
    · obtain ⟨e1, e2⟩ := hasb_far page r (.inr h2)
      have E1 := Lib.hid e1
      have E2 := Lib.hid e2
      clear e1 e2
      go_enter Try.func15, Try.ntmps15
      go_wp2_with fail
      go_ret2
      exact ⟨ret_byte ⟨E2.out, E1.out⟩, Below.refl _ _⟩
    · have hkey : Hid (keyOf Try.prog 21 (.int .i32 r) = some (.int .i32 r)) := keyOf_int_mk Try.underlying21 hr
      clear hr
      go_enter Try.func15, Try.ntmps15
      go_wp2_with fail
      refine (bySign_any page _).mono ?_
      rintro e w1 ⟨B, rfl, hown, hBs, hB⟩
      go_wp2_with (at_lookup; refine wpList_lookup_own_ok_int _ rfl _ _ 72 rfl 21 5 .u8 (int_keyed Try.underlying21) Try.underlying72 Try.underlying5 (zero_u8 _) B 256 _ rfl hown _ _ rfl hkey.out ?_; intro c hat hwc; have HAT := Lib.hid hat; clear hat)
      go_ret2
      refine ⟨ret_byte ⟨?_, ?_⟩, hB⟩
      · have := HAT.out
        rw [mapOf_at _ (tabl_nodup page) r _ 256 (by rw [tabl_length]; omega)] at this
        unfold byt
        split
        · rename_i hlt; rw [if_pos hlt] at this; simpa using this
        · rename_i hlt; rw [if_neg hlt] at this; simpa using this
      · unfold hasb
        exact (mapOf_has _ (tabl_nodup page) r 256 (by rw [tabl_length]; omega)).symm

end Go.Proofs.Ytpmcpllcfmgpgaa.Code
