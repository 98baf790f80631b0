/-
  The walk of CodeSigns: it returns true whatever comes, and leaves all that was in memory as it was.
-/
import Derived.Test.YtpmcpllcfmgpgaaCodeJ
import Derived.Deep.RegionHeld3
namespace Go.Proofs.Ytpmcpllcfmgpgaa.Code
open Go.RowKit Go.Shelf Go.Maps
set_option linter.unusedVariables false

/-- All that was in memory is as it was. -/
def BS (w w' : World) : Prop := Below w.heap.size w w'
theorem BS.drew {w w' : World} (h : BS w w') (n : Nat) : BS w (w'.drewN n) := below_drewN h n
theorem rsign_s (page b x : Int) (hx : Hid (x = sgn page b)) (b0 : 0 ≤ b) (b1 : b ≤ 255) (w W : World) (g k : Nat) (h : W.cell? ⟨g, k, none⟩ = some (.int .i32 x) ∧ BS w W) :
    Calls Try.prog 18 #[.int .i64 page, .int .u8 b] W fun e w' => e = .returned (.int .i32 x) ∧ w'.cell? ⟨g, k, none⟩ = some (.int .i32 x) ∧ BS w w' := by
  refine (rsign_any page b W b0 b1).mono ?_
  rintro e w' ⟨rfl, hb⟩
  exact ⟨by rw [hx.out], cell_later hb h.1, Below.trans h.2 (hb.mono (Below.size h.2))⟩

theorem table_sign (page : Int) (T : List Int) (hT : T = tabl page) (w1 wr : World) (h : Below (w1.alloc (.cells (tab T) 25)).heap.size (w1.alloc (.cells (tab T) 25)) wr) (k : Nat) (hk : k < 256) :
    wr.cell? ⟨w1.heap.size, k, none⟩ = some (.int .i32 (sgn page k)) := by
  have h1 : (w1.alloc (.cells (tab T) 25)).cell? ⟨w1.heap.size, k, none⟩ = some (.int .i32 (sgn page k)) := by
    rw [cell_of_row _ _ _ _ _ _ (heap_alloc_last w1 _), tab_get T k (by rw [hT, tabl_length]; omega), hT]; rfl
  exact cell_later h h1

set_option maxHeartbeats 40000000 in
theorem codeSigns_walk (page : Int) (hp : (Lit.int .i64 page).wf = true) (b : Int) (hb : (Lit.int .u8 b).wf = true) (r : Int) (hr : (Lit.int .i32 r).wf = true) (w : World) :
    Calls Try.prog 3 #[.int .i64 page, .int .u8 b, .int .i32 r] w fun e w' => e = .returned (.bool true) ∧ Below w.heap.size w w' := by
  obtain ⟨b0, b1⟩ := u8_bd hb
  have HR := Lib.hid hr
  clear hp hb hr
  have hz := (zero_of_info info_tab).1
  obtain ⟨T, hT0⟩ : ∃ T, T = tabl page := ⟨_, rfl⟩
  have hlen : T.length = 256 := by rw [hT0]; exact tabl_length page
  have hT : Hid (∀ w, Calls Try.prog 17 #[.int .i64 page] w fun e w' => e = .returned (.agg (tab T)) ∧ Below w.heap.size w w') := by
    intro w; rw [hT0]; exact table_any page w
  have hs := fun w => store_new w z256 T zeros_length hlen
  have HT0 := Lib.hid hT0
  have hsz : (tab T).size = 256 := by rw [tab_size]; exact hlen
  clear hT0 hlen
  obtain ⟨y, hy⟩ : ∃ y, y = byt page r := ⟨_, rfl⟩
  have HY := Lib.hid hy.symm
  obtain ⟨q, hq⟩ : ∃ q, q = hasb page r := ⟨_, rfl⟩
  have HQ := Lib.hid hq.symm
  obtain ⟨x, hx⟩ : ∃ x, x = sgn page b := ⟨_, rfl⟩
  have HX := Lib.hid hx.symm
  obtain ⟨u, hu⟩ : ∃ u, u = upr page b := ⟨_, rfl⟩
  have HU := Lib.hid hu.symm
  clear hy hq hx hu
  go_enter Try.func3, Try.ntmps3
  go_wp2_with fail
  refine (alive1_any _).mono ?_
  rintro e w1 ⟨rfl, B1⟩
  go_wp2_with fail
  refine (to_pair (byte_any page r _ HR.out) HY.out HQ.out).mono ?_
  rintro e w2 ⟨rfl, hb2⟩
  have B2 := B1.trans (hb2.mono B1.size)
  clear B1 hb2
  go_wp2_with fail
  refine (to_pair (rbyte_any page r _) HY.out HQ.out).mono ?_
  rintro e w3 ⟨rfl, hb3⟩
  have B3 := B2.trans (hb3.mono B2.size)
  clear B2 hb3
  go_wp2_with fail
  refine (hT.out _).mono ?_
  rintro e w4 ⟨rfl, hb4⟩
  have B4 := B3.trans (hb4.mono B3.size)
  clear B3 hb4
  have B5 := B4.alloc B4.size (.cells (tab T) 25)
  go_wp2_with fail
  go_loopw [29] (fun i wr => ∃ k : Nat, k ≤ 256 ∧ i = .int .i64 k ∧ Below (w4.alloc (.cells (tab T) 25)).heap.size (w4.alloc (.cells (tab T) 25)) wr) (fun i _ => 256 - (intOf i).toNat)
  case atStart => exact ⟨0, by omega, rfl, Below.refl _ _⟩
  case round =>
    obtain ⟨k, hk, rfl, hBw⟩ := hrel
    by_cases hlt : k < 256
    · have hk1 : (k : Int) < 256 := by omega
      have q1 : IntKind.u8.wrap (k : Int) = k := IntWalk.u8_in _ (by omega)
      have hc := table_sign page T HT0.out w4 wr hBw k hlt
      obtain ⟨z, hz2⟩ : ∃ z, z = sgn page k := ⟨_, rfl⟩
      have HZ := Lib.hid hz2
      rw [← hz2] at hc
      clear hz2
      have hBS : BS (w4.alloc (.cells (tab T) 25)) wr := hBw
      clear hBw
      go_wp2_with fail
      go_region_held3 (fun w' => w'.cell? ⟨w4.heap.size, k, none⟩ = some (.int .i32 z) ∧ BS (w4.alloc (.cells (tab T) 25)) w')
        (first | exact ⟨hc, hBS.drew _⟩ | assumption | go_keep)
        (first | (go_at_call 18; refine (rsign_s page k z HZ (by omega) (by omega) _ _ _ _ (by assumption)).mono ?_; rintro e w' ⟨rfl, hS⟩))
      go_wp2_with fail
      go_roundw
      case rel => exact ⟨k + 1, by omega, by go_num, hS.2⟩
      case measure => simp [intOf]; omega
    · obtain rfl : k = 256 := by omega
      have B6 := B5.trans (hBw.mono B5.size)
      clear B5 hBw B4
      go_wp2_with fail
      refine (to_int (sign_any page b _ b0 b1) HX.out).mono ?_
      rintro e w5 ⟨rfl, hb5⟩
      have B7 := B6.trans (hb5.mono B6.size)
      clear B6 hb5
      go_wp2_with fail
      refine (to_int (rsign_any page b _ b0 b1) HX.out).mono ?_
      rintro e w6 ⟨rfl, hb6⟩
      have B8 := B7.trans (hb6.mono B7.size)
      clear B7 hb6
      go_wp2_with fail
      refine (to_int (upper_any page b _ b0 b1) HU.out).mono ?_
      rintro e w7 ⟨rfl, hb7⟩
      have B9 := B8.trans (hb7.mono B8.size)
      clear B8 hb7
      go_wp2_with fail
      refine (to_int (rupper_any page b _ b0 b1) HU.out).mono ?_
      rintro e w8 ⟨rfl, hb8⟩
      have B10 := B9.trans (hb8.mono B9.size)
      clear B9 hb8
      go_wp2_with fail
      by_cases h1 : b < 240
      · refine (to_bool (digit_any b _ b0 b1) (y := false) (by simp; omega)).mono ?_
        rintro e w' ⟨rfl, rfl⟩
        go_wp2_with fail
        refine (graphic_any b _ b0 b1).mono ?_
        rintro e w' ⟨rfl, rfl⟩
        go_wp2_with fail
        refine (seen_any b _ b0 b1).mono ?_
        rintro e w' ⟨rfl, rfl⟩
        go_wp2_with fail
        refine (special_any b _ b0 b1).mono ?_
        rintro e w' ⟨rfl, rfl⟩
        go_wp2_with fail
        go_ret
        exact ⟨rfl, B10⟩
      · have h1b : 240 ≤ b := by omega
        clear h1
        by_cases h2 : b ≤ 249
        · refine (to_bool (digit_any b _ b0 b1) (y := true) (by simp; omega)).mono ?_
          rintro e w' ⟨rfl, rfl⟩
          go_wp2_with fail
          refine (graphic_any b _ b0 b1).mono ?_
          rintro e w' ⟨rfl, rfl⟩
          go_wp2_with fail
          refine (seen_any b _ b0 b1).mono ?_
          rintro e w' ⟨rfl, rfl⟩
          go_wp2_with fail
          refine (special_any b _ b0 b1).mono ?_
          rintro e w' ⟨rfl, rfl⟩
          go_wp2_with fail
          go_ret
          exact ⟨rfl, B10⟩
        · have h2b : 249 < b := by omega
          clear h2
          refine (to_bool (digit_any b _ b0 b1) (y := false) (by simp; omega)).mono ?_
          rintro e w' ⟨rfl, rfl⟩
          go_wp2_with fail
          refine (graphic_any b _ b0 b1).mono ?_
          rintro e w' ⟨rfl, rfl⟩
          go_wp2_with fail
          refine (seen_any b _ b0 b1).mono ?_
          rintro e w' ⟨rfl, rfl⟩
          go_wp2_with fail
          refine (special_any b _ b0 b1).mono ?_
          rintro e w' ⟨rfl, rfl⟩
          go_wp2_with fail
          go_ret
          exact ⟨ret_bool (by simp; omega), B10⟩

end Go.Proofs.Ytpmcpllcfmgpgaa.Code
