/-
  The example of the statements about fields is as it is said.
-/
import Derived.Test.YtgjhboikfbafcaaFlQ
namespace Go.Proofs.Ytgjhboikfbafcaa.Pl
open Go.RowKit Go.Shelf Base
set_option linter.unusedVariables false
set_option linter.unusedSimpArgs false

theorem str_data : strOfNums [193, 0, 0, 0] = ⟨#[193, 0, 0, 0]⟩ := by decide +kernel
theorem si_yes {u v : Value} {A : List Int} {W : World} (hA : RowOf .i64 W u A) (hB : RowOf .i64 W v A) (hm : A.length ≤ maxLen) : Calls Try.prog 15 #[u, v] W fun e W' => e = .returned (.bool true) ∧ ∃ n, W' = W.drewN n :=
  (sameInts_any u v A A W hA hB hm).mono fun e W' ⟨he, hn⟩ => ⟨by rw [he]; simp, hn⟩
theorem below_dn (W : World) (n : Nat) : Below W.heap.size W (W.drewN n) := ⟨rfl, rfl, rfl, Nat.le_refl _, fun _ _ => rfl⟩
theorem lit_row (W : World) : RowOf .i64 (W.alloc (.cells #[.int .i64 4, .int .i64 0, .int .i64 1, .int .i64 2] 3)) (.slice (some ⟨W.heap.size, 0, none⟩) 4 4) [4, 0, 1, 2] :=
  RowOf.of_owns (World.ownsRow_lit (base := 0) (e := 3) (size := 1) W #[.int .i64 4, .int .i64 0, .int .i64 1, .int .i64 2] 4 (Nat.zero_le _) (by unfold maxLen; omega) rfl)
set_option maxRecDepth 100000 in
set_option maxHeartbeats 4000000 in
theorem fld_alive (w : World) : Calls Try.prog 7 #[] w fun e W => e = .returned (.bool true) ∧ Below w.heap.size w W := by
  go_enter Try.func7, Try.ntmps7
  go_wp2_with (first
    | (go_at_call 44; (with_reducible refine (x_new w).mono ?_); rintro e w1 ⟨b, g, rfl, h1⟩; have H1 := Lib.hid h1; clear h1)
    | (go_at_call 11; (with_reducible refine (x_fmt0 H1.out).mono ?_); rintro e w2 ⟨rfl, h2⟩; have H2 := Lib.hid h2; clear h2)
    | (go_at_call 26; (with_reducible refine (x_open2 H2.out).mono ?_); rintro e w3 ⟨rfl, h3⟩; have H3 := Lib.hid h3; clear h3)
    | (go_at_call 45; (with_reducible refine (x_set3 H3.out).mono ?_); rintro e w4 ⟨⟨v4, rfl⟩, h4⟩; have H4 := Lib.hid h4; clear h4)
    | (go_at_call 45; (with_reducible refine (x_set4 H4.out).mono ?_); rintro e w5 ⟨⟨v5, rfl⟩, h5⟩; have H5 := Lib.hid h5; clear h5)
    | (go_at_call 21; (with_reducible refine (x_of H5.out).mono ?_); rintro e w6 ⟨rfl, h6⟩; have H6 := Lib.hid (show ExF w b g w6.heap.size e2 (w6.alloc (.cells #[.int .i64 3, .int .i64 4, .int .u8 0] 39)) from ⟨h6.below (below_alloc _ _), heap_alloc_new _ _⟩); clear h6)
    | (go_at_call 46; (with_reducible refine (x_mark H6.out).mono ?_); rintro e w7 ⟨rfl, h7⟩; have H7 := Lib.hid h7; clear h7)
    | (go_at_call 47; (with_reducible refine (x_unmark H7.out).mono ?_); rintro e w8 ⟨rfl, h8⟩; have H8 := Lib.hid h8; clear h8)
    | (go_at_call 11; (with_reducible refine (x_fmt H8.out).mono ?_); rintro e w9 ⟨rfl, h9⟩; have H9 := Lib.hid h9
       have k0 : w9.cell? ⟨w6.heap.size, 0, none⟩ = some (.int .i64 3) := by simp [World.cell?, h9.f]
       have k1 : w9.cell? ⟨w6.heap.size, 1, none⟩ = some (.int .i64 4) := by simp [World.cell?, h9.f]
       have k2 : w9.cell? ⟨w6.heap.size, 2, none⟩ = some (.int .u8 0) := by simp [World.cell?, h9.f]
       clear h9)
    | (go_at_call 16; (with_reducible refine (x_places H9.out).mono ?_); rintro e w10 ⟨v, rfl, hr, h10⟩; have H10 := Lib.hid (h10.below (below_alloc w10 (.cells #[.int .i64 4, .int .i64 0, .int .i64 1, .int .i64 2] 3))); have HR := Lib.hid (hr.below (below_alloc w10 (.cells #[.int .i64 4, .int .i64 0, .int .i64 1, .int .i64 2] 3))); clear h10 hr k0 k1 k2)
    | (go_at_call 15; (with_reducible refine (si_yes HR.out (lit_row w10) (by unfold maxLen; decide)).mono ?_); rintro e w11 ⟨rfl, nn, rfl⟩; have H11 := Lib.hid (H10.out.below (below_dn _ nn)))
    | (go_at_call 23; (with_reducible refine (x_before H11.out).mono ?_); rintro e w12 ⟨rfl, h12⟩; have H12 := Lib.hid h12; clear h12)
    | (go_at_call 24; (with_reducible refine (x_after H12.out).mono ?_); rintro e w13 ⟨rfl, h13⟩; have H13 := Lib.hid h13
       have k0 : w13.cell? ⟨w6.heap.size, 0, none⟩ = some (.int .i64 3) := by simp [World.cell?, h13.f]
       have k1 : w13.cell? ⟨w6.heap.size, 1, none⟩ = some (.int .i64 4) := by simp [World.cell?, h13.f]
       have k2 : w13.cell? ⟨w6.heap.size, 2, none⟩ = some (.int .u8 0) := by simp [World.cell?, h13.f]
       clear h13)
    | (go_at_call 18; (with_reducible refine (x_data H13.out).mono ?_); rintro e w14 ⟨v2, rfl, hr, h14⟩; have H14 := Lib.hid h14; have HCV := row_str hr; rw [str_data] at HCV; clear h14 hr k0 k1 k2)
    | (go_at_call 26; (with_reducible refine (x_open3 H14.out).mono ?_); rintro e w15 ⟨rfl, h15⟩; have H15 := Lib.hid h15; clear h15)
    | (go_at_call 26; (with_reducible refine (x_open4 H15.out).mono ?_); rintro e w16 ⟨rfl, h16⟩; have H16 := Lib.hid h16; clear h16)
    | (go_at_call 12; (with_reducible refine (x_home H16.out).mono ?_); rintro e w17 ⟨rfl, h17⟩; have H17 := Lib.hid h17
       have k0 : w17.cell? ⟨w6.heap.size, 0, none⟩ = some (.int .i64 3) := by simp [World.cell?, h17.f]
       have k1 : w17.cell? ⟨w6.heap.size, 1, none⟩ = some (.int .i64 4) := by simp [World.cell?, h17.f]
       have k2 : w17.cell? ⟨w6.heap.size, 2, none⟩ = some (.int .u8 0) := by simp [World.cell?, h17.f]
       clear h17)
    | (go_at_call 19; (with_reducible refine (x_text H17.out).mono ?_); rintro e w18 ⟨rfl, h18⟩; have H18 := Lib.hid h18; clear h18 k0 k1 k2)
    | (go_at_call 10; (with_reducible refine (x_all H18.out).mono ?_); rintro e w19 ⟨a19, c19, rfl, h19⟩; have H19 := Lib.hid h19; clear h19))

  go_ret
  exact ⟨rfl, H19.out.q.old⟩
end Go.Proofs.Ytgjhboikfbafcaa.Pl
