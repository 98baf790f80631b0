/-
  Plain bytes; a place, a sign, a pair.
-/
import Derived.Test.YtjeknociobbhpaaDoorOrdA
namespace Go.Proofs.YtjeknociobbhpaaDoor.Ord
open Go.RowKit Base
set_option linter.unusedVariables false
set_option linter.unusedSimpArgs false

theorem plain_cases (b : Int) : b = 0 ∨ b = 12 ∨ b = 13 ∨ b = 21 ∨ b = 25 ∨ b = 28 ∨ b = 30 ∨ b = 63 ∨ ((b == 0) = false ∧ (b == 12) = false ∧ (b == 13) = false ∧ (b == 21) = false ∧ (b == 25) = false ∧ (b == 28) = false ∧ (b == 30) = false ∧ (b == 63) = false) := by simp; omega
set_option maxHeartbeats 1000000 in
theorem plain_any (b : Int) (w : World) : Calls Tryd.prog 13 #[.int .u8 b] w fun e w' => e = .returned (.bool (plain b)) ∧ w = w' := by
  rcases plain_cases b with rfl | rfl | rfl | rfl | rfl | rfl | rfl | rfl | ⟨b0, b1, b2, b3, b4, b5, b6, b7⟩
  case inr.inr.inr.inr.inr.inr.inr.inr =>
    have key : plain b = decide (64 ≤ b) := by simp at b0 b1 b2 b3 b4 b5 b6 b7; simp [plain, *]
    rw [key]
    go_enter Tryd.func13, Tryd.ntmps13
    go_wp2
    go_ret
    exact ⟨rfl, rfl⟩
  all_goals
    go_enter Tryd.func13, Tryd.ntmps13
    go_wp2
    go_ret
    exact ⟨rfl, rfl⟩
set_option maxHeartbeats 1000000 in
theorem stands_any (b : Int) (ge : Bool) (w : World) : Calls Tryd.prog 51 #[.int .u8 b, .bool ge] w fun e w' => e = .returned (.bool (standsB b ge)) ∧ w = w' := by
  cases ge
  · go_enter Tryd.func51, Tryd.ntmps51
    go_wp2_with fail
    refine (plain_any b _).mono ?_
    rintro e w' ⟨rfl, rfl⟩
    go_wp2_with fail
    go_ret
    exact ⟨rfl, rfl⟩
  · go_enter Tryd.func51, Tryd.ntmps51
    go_wp2_with fail
    go_ret
    exact ⟨rfl, rfl⟩
theorem shown_ok (b : Int) (ge : Bool) (w : World) (h : standsB b ge = true) : Calls Tryd.prog 37 #[.int .u8 b, .bool ge] w fun e w' => e = .returned (.int .u8 b) ∧ w = w' := by
  go_enter Tryd.func37, Tryd.ntmps37
  go_wp2_with fail
  refine (stands_any b ge _).mono ?_
  rw [h]
  rintro e w' ⟨rfl, rfl⟩
  go_wp2_with fail
  go_ret
  exact ⟨rfl, rfl⟩
theorem shown_bad (b : Int) (ge : Bool) (w : World) (h : standsB b ge = false) : Calls Tryd.prog 37 #[.int .u8 b, .bool ge] w fun e w' => e = thrown .none ∧ w = w' := by
  go_enter Tryd.func37, Tryd.ntmps37
  go_wp2_with fail
  refine (stands_any b ge _).mono ?_
  rw [h]
  rintro e w' ⟨rfl, rfl⟩
  go_wp2_with fail
  exact ⟨rfl, rfl, rfl⟩
theorem byte_fin {p : Int → Prop} (h : ∀ k : Fin 256, p (k.val : Int)) (b : Int) (h0 : 0 ≤ b) (h1 : b ≤ 255) : p b := by
  have := h ⟨b.toNat, by omega⟩
  simpa [Int.toNat_of_nonneg h0] using this
theorem value_any (b : Int) (w : World) (h0 : 0 ≤ b) (h1 : b < 256) : Calls Tryd.prog 39 #[.int .u8 b] w fun e w' => e = .returned (.int .i64 (b % 64)) ∧ w = w' := by
  go_enter Tryd.func39, Tryd.ntmps39
  go_wp2_with fail
  go_ret
  exact ⟨rfl, rfl⟩
theorem decode_any (a b : Int) (w : World) (h0 : 0 ≤ a) (h1 : a < 256) (h2 : 0 ≤ b) (h3 : b < 256) : Calls Tryd.prog 50 #[.int .u8 a, .int .u8 b] w fun e w' => e = .returned (.int .i64 (dec a b)) ∧ w = w' := by
  by_cases ha : a < 64
  · have hd : (a / 64 == 0) = true := by simp; omega
    have hm : a % 64 = a := by omega
    have hw : IntKind.i64.wrap (a * 256 + b) = a * 256 + b := IntWalk.i64_in _ (by omega)
    go_enter Tryd.func50, Tryd.ntmps50
    go_wp2_with fail
    refine (value_any a _ h0 h1).mono ?_
    rw [hm]
    rintro e w' ⟨rfl, rfl⟩
    go_wp2_with fail
    go_ret
    exact ⟨ret_int (by unfold dec; rw [if_pos ha]), rfl⟩
  · have hd : (a / 64 == 0) = false := by simp; omega
    obtain ⟨x, hx⟩ : ∃ x, x = a % 64 := ⟨_, rfl⟩
    obtain ⟨y, hy⟩ : ∃ y, y = b % 64 := ⟨_, rfl⟩
    have x0 : 0 ≤ x := by omega
    have x1 : x < 64 := by omega
    have y0 : 0 ≤ y := by omega
    have y1 : y < 64 := by omega
    go_enter Tryd.func50, Tryd.ntmps50
    go_wp2_with fail
    refine (value_any a _ h0 h1).mono ?_
    rw [← hx]
    rintro e w' ⟨rfl, rfl⟩
    go_wp2_with fail
    refine (value_any b _ h2 h3).mono ?_
    rw [← hy]
    rintro e w' ⟨rfl, rfl⟩
    go_wp2_with fail
    go_ret
    exact ⟨ret_int (by unfold dec; rw [if_neg (by omega)]), rfl⟩
section
variable {w w' : World} {b : Nat} {a : Option Addr} {cap : Nat} {L : List Int} {i : Nat}
theorem Rdr.bt (h : Rdr w b a cap L i) (j : Nat) : 0 ≤ L[j]?.getD 0 ∧ L[j]?.getD 0 < 256 := by
  rcases Nat.lt_or_ge j L.length with hj | hj
  · have := h.bd _ (List.getElem_mem hj)
    simp [hj]; omega
  · simp [List.getElem?_eq_none hj]
/-- One byte, whatever stands there. -/
theorem next_any (h : Rdr w b a cap L i) : Calls Tryd.prog 35 #[.pointer (some ⟨b, 0, none⟩)] w (RdP b a cap L w (nx L i) fun _ x V => V = .int .u8 x) := by
  rcases Nat.lt_or_ge i L.length with hi | hi
  · rw [nx_lt hi]
    refine (next_ok h hi).mono ?_
    rintro e w' ⟨rfl, h', t⟩
    exact ⟨t, ⟨_, rfl, rfl⟩, h'⟩
  · rw [nx_end hi]
    refine (next_end h (by have := h.le; omega)).mono ?_
    rintro e w' ⟨rfl, t⟩
    exact ⟨t, rfl⟩
theorem place_any (h : Rdr w b a cap L i) : Calls Tryd.prog 36 #[.pointer (some ⟨b, 0, none⟩)] w (RdP b a cap L w (placeM L i) fun _ x V => V = .int .i64 x) := by
  unfold placeM
  have H := Lib.hid h
  clear h
  rcases Nat.lt_or_ge i L.length with hi | hi
  · rw [nx_lt hi]
    simp only [Rd.andThen]
    have HI := Lib.hid hi
    clear hi
    rcases Nat.lt_or_ge (i + 1) L.length with hj | hj
    · rw [nx_lt hj]
      simp only [Rd.andThen]
      have HJ := Lib.hid hj
      clear hj
      go_enter Tryd.func36, Tryd.ntmps36
      go_wp2_with fail
      refine (next_ok H.out HI.out).mono ?_
      rintro e W1 ⟨rfl, h1, t1⟩
      have H1 := Lib.hid h1
      have T1 := Lib.hid t1
      clear h1 t1
      go_wp2_with fail
      refine (next_ok H1.out HJ.out).mono ?_
      rintro e W2 ⟨rfl, h2, t2⟩
      have H2 := Lib.hid h2
      have T2 := Lib.hid t2
      clear h2 t2
      go_wp2_with fail
      refine (decode_any _ _ _ (H.out.bt i).1 (H.out.bt i).2 (H.out.bt (i + 1)).1 (H.out.bt (i + 1)).2).mono ?_
      rintro e w' ⟨rfl, rfl⟩
      go_wp2_with fail
      go_ret
      exact ⟨T1.out.trans T2.out, ⟨_, rfl, rfl⟩, H2.out⟩
    · rw [nx_end hj]
      simp only
      have HJ := Lib.hid hj
      clear hj
      go_enter Tryd.func36, Tryd.ntmps36
      go_wp2_with fail
      refine (next_ok H.out HI.out).mono ?_
      rintro e W1 ⟨rfl, h1, t1⟩
      have H1 := Lib.hid h1
      have T1 := Lib.hid t1
      clear h1 t1
      go_wp2_with fail
      refine (next_end H1.out (by have := H1.out.le; have := HJ.out; omega)).mono ?_
      rintro e W2 ⟨rfl, t2⟩
      unfold thrown
      have T2 := Lib.hid t2
      clear t2
      go_wp2_with fail
      exact ⟨rfl, T1.out.trans T2.out, rfl⟩
  · rw [nx_end hi]
    simp only [Rd.andThen]
    have HI := Lib.hid hi
    clear hi
    go_enter Tryd.func36, Tryd.ntmps36
    go_wp2_with fail
    refine (next_end H.out (by have := H.out.le; have := HI.out; omega)).mono ?_
    rintro e W2 ⟨rfl, t2⟩
    unfold thrown
    have T2 := Lib.hid t2
    clear t2
    go_wp2_with fail
    exact ⟨rfl, T2.out, rfl⟩
end
end Go.Proofs.YtjeknociobbhpaaDoor.Ord
