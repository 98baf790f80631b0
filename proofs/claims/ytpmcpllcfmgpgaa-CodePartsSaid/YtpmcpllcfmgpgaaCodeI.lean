/-
  The document's examples of layer 1: the helper alive returns true, and leaves all that was in memory as it was; and the reference's Copy.
-/
import Derived.Test.YtpmcpllcfmgpgaaCodeH
import Derived.Laws.BytesArg
namespace Go.Proofs.Ytpmcpllcfmgpgaa.Code
open Go.RowKit Go.Shelf Go.Maps
set_option linter.unusedVariables false

theorem RowOf.conv {w : World} {v : Value} {L : List Int} (h : RowOf .u8 w v L) (hb : IsBytes L) : (convert 32 9 v).run Try.prog w = .ok (.string ⟨(L.map fun x => UInt8.ofNat x.toNat).toArray⟩) w := by
  obtain ⟨a, cap, rfl, hr⟩ := h
  by_cases h0 : L = []
  · subst h0
    cases a with
    | none => exact run_convert_bytes_nil w 32 5 Try.underlying32 Try.underlying5 _ _ 9 Try.underlying9
    | some a =>
      have := run_convert_bytes_back (P := Try.prog) w 32 9 5 a cap [] Try.underlying32 Try.underlying5 Try.underlying9 (fun j hj => absurd hj (by simp))
      simpa using this
  · obtain ⟨b, off, rfl, hc⟩ := hr h0
    have := run_convert_bytes_back (P := Try.prog) w 32 9 5 ⟨b, off, none⟩ cap (L.map fun x => UInt8.ofNat x.toNat) Try.underlying32 Try.underlying5 Try.underlying9 (fun j hj => by
      simp only [List.length_map] at hj
      have h1 := hc j hj
      have h2 := hb.at j hj
      have e : (Addr.mk b off none).add j = ⟨b, off + j, none⟩ := by
        unfold Addr.add; split <;> simp_all
      rw [e, h1]
      simp only [List.getElem_map]
      have h3 : L[j]?.getD 0 = L[j] := by simp [hj]
      rw [h3] at h2 ⊢
      have : ((UInt8.ofNat (L[j]).toNat).toNat : Int) = L[j] := by
        rw [UInt8.toNat_ofNat']; omega
      rw [this])
    simpa using this

theorem to_str {P : Program} {f : FuncId} {args : Array Value} {w : World} {x y : ByteArray} {Q : World → Prop} (h : Calls P f args w fun e w' => e = .returned (.string x) ∧ Q w') (e : x = y) : Calls P f args w fun e w' => e = .returned (.string y) ∧ Q w' := by
  subst e; exact h

/-- A row of three bytes that the call has just made. -/
theorem row_three (w : World) (x y z : Int) : RowOf .u8 (w.alloc (.cells #[.int .u8 x, .int .u8 y, .int .u8 z] 5)) (.slice (some ⟨w.heap.size, 0, none⟩) 3 3) [x, y, z] :=
  ⟨_, 3, rfl, fun _ => ⟨w.heap.size, 0, rfl, fun i hi => by
    rcases i with _ | _ | _ | i
    · simp [go_sem]
    · simp [go_sem]
    · simp [go_sem]
    · simp at hi; omega⟩⟩

theorem bres_yes {k0 : IntKind} {page : Int} {s : ByteArray} {w : World} {P : Program} {f : FuncId} {args : Array Value} {L : List Int} (h : Calls P f args w (BRes k0 page s w)) (hb : bytesOf page s = some L) :
    Calls P f args w fun e w' => ∃ v, e = .returned (.tuple #[v, .int k0 0]) ∧ RowOf .u8 w' v L ∧ w'.ownsRow w.heap.size 5 1 v L.length (L.map (Value.int .u8)) ∧ Below w.heap.size w w' := by
  refine h.mono ?_
  rintro e w' ⟨h, hB⟩
  rcases h with ⟨M, v, hM, rfl, ho⟩ | ⟨hM, _⟩
  · rw [hb] at hM; cases hM; exact ⟨v, rfl, RowOf.of_owns ho, ho, hB⟩
  · rw [hb] at hM; cases hM
theorem bres_no {k0 : IntKind} {page : Int} {s : ByteArray} {w : World} {P : Program} {f : FuncId} {args : Array Value} (h : Calls P f args w (BRes k0 page s w)) (hb : bytesOf page s = none) :
    Calls P f args w fun e w' => e = .returned (.tuple #[.slice none 0 0, .int k0 21]) ∧ Below w.heap.size w w' := by
  refine h.mono ?_
  rintro e w' ⟨h, hB⟩
  rcases h with ⟨M, v, hM, _⟩ | ⟨_, rfl⟩
  · rw [hb] at hM; cases hM
  · exact ⟨rfl, hB⟩

theorem ex1 : byt 37 65 = 193 ∧ hasb 37 65 = true ∧ byt 37 256 = 0 ∧ hasb 37 256 = false := ⟨by kernel_rfl, by kernel_rfl, by kernel_rfl, by kernel_rfl⟩
theorem ex2 : bytesOf 500 ⟨#[91, 97]⟩ = some [74, 129] ∧ bytesOf 37 ⟨#[0]⟩ = none := ⟨by kernel_rfl, by kernel_rfl⟩
theorem ex3 : sgn 37 193 = 65 ∧ sgn 37 74 = 162 ∧ sgn 500 74 = 91 ∧ upr 37 129 = 193 ∧ upr 37 241 = 241 := ⟨by kernel_rfl, by kernel_rfl, by kernel_rfl, by kernel_rfl, by kernel_rfl⟩
theorem ex4 : (⟨(textOf 37 [193, 0, 129]).toArray⟩ : ByteArray) = ⟨#[65, 32, 97]⟩ := by kernel_rfl

set_option maxRecDepth 100000 in
set_option maxHeartbeats 4000000 in
theorem alive1_any (w : World) : Calls Try.prog 14 #[] w fun e w' => e = .returned (.bool true) ∧ Below w.heap.size w w' := by
  have hz := (zero_of_info info_tab).1
  obtain ⟨T, hT0⟩ : ∃ T, T = tabl 37 := ⟨_, rfl⟩
  have hlen : T.length = 256 := by rw [hT0]; exact tabl_length 37
  have hT : Hid (∀ w, Calls Try.prog 17 #[.int .i64 37] w fun e w' => e = .returned (.agg (tab T)) ∧ Below w.heap.size w w') := by
    intro w; rw [hT0]; exact table_any 37 w
  have hs := fun w => store_new w z256 T zeros_length hlen
  have HT0 := Lib.hid hT0
  have HLEN := Lib.hid hlen
  have hsz : (tab T).size = 256 := by rw [tab_size]; exact hlen
  clear hT0 hlen
  go_enter Try.func14, Try.ntmps14
  go_wp2_with fail
  refine (to_pair (byte_any 37 65 _ (by decide)) ex1.1 ex1.2.1).mono ?_
  rintro e w1 ⟨rfl, B1⟩
  go_wp2_with fail
  refine (to_pair (byte_any 37 256 _ (by decide)) ex1.2.2.1 ex1.2.2.2).mono ?_
  rintro e w2 ⟨rfl, hb2⟩
  have B2 := B1.trans (hb2.mono B1.size)
  clear B1 hb2
  go_wp2_with fail
  refine (bres_yes (bytes_any 500 ⟨#[91, 97]⟩ _ (by decide)) ex2.1).mono ?_
  rintro e w3 ⟨v, rfl, hv3, _, hb3⟩
  have B3 := B2.trans (hb3.mono B2.size)
  clear B2 hb3
  go_wp2_with fail
  refine (bres_no (bytes_any 37 ⟨#[0]⟩ _ (by decide)) ex2.2).mono ?_
  rintro e w4 ⟨rfl, hb4⟩
  have hv4 := hv3.below hb4
  have B4 := B3.trans (hb4.mono B3.size)
  clear B3 hb4 hv3
  go_wp2_with fail
  refine (hT.out _).mono ?_
  rintro e w5 ⟨rfl, hb5⟩
  have hc5 : (w5.alloc (.cells (tab T) 25)).cell? ⟨w5.heap.size, 193, none⟩ = some (.int .i32 65) := by
    rw [cell_of_row _ _ _ _ _ _ (heap_alloc_last w5 _), tab_get T 193 (by rw [HLEN.out]; decide), HT0.out]; kernel_rfl
  have hv5 := (hv4.below hb5).below ((Below.refl _ w5).alloc (Nat.le_refl _) (.cells (tab T) 25))
  have B5 := (B4.trans (hb5.mono B4.size)).alloc (by have := B4.size; have := hb5.size; omega) (.cells (tab T) 25)
  clear B4 hb5 hv4
  go_wp2_with fail
  refine (to_int (sign_any 37 193 _ (by decide) (by decide)) ex3.1).mono ?_
  rintro e w6 ⟨rfl, hb6⟩
  have hc6 := cell_later hb6 hc5
  have hv6 := hv5.below hb6
  have B6 := B5.trans (hb6.mono B5.size)
  clear hc5 hv5 B5 hb6
  go_wp2_with fail
  refine (to_int (sign_any 37 74 _ (by decide) (by decide)) ex3.2.1).mono ?_
  rintro e w7 ⟨rfl, hb7⟩
  have hc7 := cell_later hb7 hc6
  have hv7 := hv6.below hb7
  have B7 := B6.trans (hb7.mono B6.size)
  clear hc6 hv6 B6 hb7
  go_wp2_with fail
  refine (to_int (sign_any 500 74 _ (by decide) (by decide)) ex3.2.2.1).mono ?_
  rintro e w8 ⟨rfl, hb8⟩
  have hc8 := cell_later hb8 hc7
  have hv8 := hv7.below hb8
  have B8 := B7.trans (hb8.mono B7.size)
  clear hc7 hv7 B7 hb8
  go_wp2_with fail
  have hq1 : ((⟨#[65, 32, 97]⟩ : ByteArray) == ⟨#[65, 32, 97]⟩) = true := by decide
  refine (to_str (text_any 37 _ [193, 0, 129] _ (row_three w8 193 0 129) (by unfold IsBytes; decide) (by decide)) ex4).mono ?_
  rintro e w9 ⟨rfl, hb9⟩
  have hc9 := cell_later (below_box1 hb9) hc8
  have hv9 := hv8.below (below_box1 hb9)
  have B9 := B8.trans ((below_box1 hb9).mono B8.size)
  have hcv : (convert 32 9 v).run Try.prog w9 = .ok (.string ⟨#[74, 129]⟩) w9 := hv9.conv (by unfold IsBytes; decide)
  clear hc8 hv8 B8 hb9
  go_wp2_with fail
  refine (to_int (upper_any 37 129 _ (by decide) (by decide)) ex3.2.2.2.1).mono ?_
  rintro e w10 ⟨rfl, hb10⟩
  have B10 := B9.trans (hb10.mono B9.size)
  clear B9 hb10
  clear hcv hc9 hv9
  go_wp2_with fail
  refine (to_int (upper_any 37 241 _ (by decide) (by decide)) ex3.2.2.2.2).mono ?_
  rintro e w11 ⟨rfl, hb11⟩
  have B11 := B10.trans (hb11.mono B10.size)
  clear B10 hb11
  go_wp2_with fail
  refine (to_bool (digit_any 249 _ (by decide) (by decide)) (y := true) (by decide)).mono ?_
  rintro e w' ⟨rfl, rfl⟩
  go_wp2_with fail
  refine (to_bool (digit_any 250 _ (by decide) (by decide)) (y := false) (by decide)).mono ?_
  rintro e w' ⟨rfl, rfl⟩
  go_wp2_with fail
  refine (to_bool (graphic_any 64 _ (by decide) (by decide)) (y := true) (by decide)).mono ?_
  rintro e w' ⟨rfl, rfl⟩
  go_wp2_with fail
  refine (to_bool (graphic_any 255 _ (by decide) (by decide)) (y := false) (by decide)).mono ?_
  rintro e w' ⟨rfl, rfl⟩
  go_wp2_with fail
  refine (special_any 1 _ (by decide) (by decide)).mono ?_
  rintro e w' ⟨rfl, rfl⟩
  go_wp2_with fail
  go_ret
  exact ⟨rfl, B11⟩


end Go.Proofs.Ytpmcpllcfmgpgaa.Code
