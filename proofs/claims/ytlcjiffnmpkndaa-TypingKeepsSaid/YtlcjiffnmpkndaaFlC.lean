/-
  The attribute ahead of a place and behind it; fields; what may be typed, and what is modified.
-/
import Derived.Test.YtlcjiffnmpkndaaFlB
import Derived.Test.YtlcjiffnmpkndaaAttrA
namespace Go.Proofs.Ytlcjiffnmpkndaa.Pl
open Go.RowKit Go.Shelf Base
set_option linter.unusedVariables false
set_option linter.unusedSimpArgs false

def befL (L : List Cl) (a : Int) : Int := firstL L (backL L.length a)
def aftL (L : List Cl) (a : Int) : Int := firstL L (placesL L.length a L.length)
theorem mem_back {n : Nat} {a y : Int} (h : y ∈ backL n a) : 0 ≤ y ∧ y < n := by
  unfold backL at h
  split at h
  · next hin =>
    have := of_decide_eq_true hin
    obtain ⟨i, _, rfl⟩ := List.mem_map.1 h
    exact ⟨Int.emod_nonneg _ (by omega), Int.emod_lt_of_pos _ (by omega)⟩
  · simp at h
theorem mem_places {n : Nat} {a k y : Int} (h : y ∈ placesL n a k) : 0 ≤ y ∧ y < n := by
  unfold placesL at h
  split at h
  · next hin =>
    have := of_decide_eq_true hin
    obtain ⟨i, _, rfl⟩ := List.mem_map.1 h
    exact step_bd n (a + 1) i (by omega)
  · simp at h
theorem firstL_cases {L : List Cl} (xs : List Int) : firstL L xs = -1 ∧ (∀ y ∈ xs, (atL L y).st = false) ∨ firstL L xs ∈ xs ∧ (atL L (firstL L xs)).st = true := by
  unfold firstL
  cases h : xs.find? (fun p => (atL L p).st) with
  | none => left; exact ⟨rfl, fun y hy => by simpa using List.find?_eq_none.1 h y hy⟩
  | some p => right; exact ⟨List.mem_of_find?_eq_some h, List.find?_some (p := fun p => (atL L p).st) h⟩
theorem bef_bd (L : List Cl) (a : Int) : -1 ≤ befL L a ∧ befL L a < 4096 ∨ 4096 < L.length := by
  unfold befL
  rcases firstL_cases (L := L) (backL L.length a) with ⟨h, _⟩ | ⟨h, _⟩
  · left; omega
  · have := mem_back h; omega
section
variable {w : World} {b g : Nat} {r c cur : Int} {L : List Cl}
set_option maxHeartbeats 800000 in
theorem before_any (h : PlAt w b g r c cur L) (a : Int) : Calls Try.prog 72 #[.pointer (some ⟨b, 0, none⟩), .int .i64 a] w fun e W => e = .returned (.int .i64 (befL L a)) ∧ Below w.heap.size w W := by
  have HH := Lib.hid h
  clear h
  go_enter Try.func72, Try.ntmps72
  go_wp2_with fail
  go_at_call 109
  refine (back_any w b a).mono ?_
  rintro e W1 ⟨rfl, hI, hb, hs⟩
  have HB := Lib.hid hb
  have hseq := back_seq 2 (by omega) w.heap.size (w.heap.size + 1) b L.length a W1 (by omega) hI
  have HSQ := Lib.hid hseq
  clear hI hb hseq
  go_wp2_with fail
  go_at_call 108
  refine (callsIn_wide.1 (first_any (HH.out.below HB.out) (xs := backL L.length a) (enters_of Try.func140 (by kernel_rfl) rfl) (by omega) HSQ.out)).mono ?_
  rintro e W2 ⟨rfl, hb2⟩
  go_wp2
  go_ret
  exact ⟨rfl, HB.out.trans (hb2.mono (by omega))⟩
set_option maxHeartbeats 800000 in
theorem after_any (h : PlAt w b g r c cur L) (a : Int) : Calls Try.prog 121 #[.pointer (some ⟨b, 0, none⟩), .int .i64 a] w fun e W => e = .returned (.int .i64 (aftL L a)) ∧ Below w.heap.size w W := by
  have hm := h.most
  have HH := Lib.hid h
  clear h
  go_enter Try.func121, Try.ntmps121
  go_wp2_with (go_at_call 39; refine (len_any HH.out).mono ?_; rintro e w' ⟨rfl, rfl⟩)
  go_at_call 124
  refine (places_any w b ⟨a, L.length, 0⟩).mono ?_
  rintro e W1 ⟨rfl, hI, hb, hs⟩
  have HB := Lib.hid hb
  have hseq := places_seq 2 (by omega) w.heap.size (w.heap.size + 1) b L.length ⟨a, L.length, 0⟩ (by show (L.length : Int) ≤ _; omega) W1 (by omega) hI
  have HSQ := Lib.hid hseq
  clear hI hb hseq
  go_wp2_with fail
  go_at_call 108
  refine (callsIn_wide.1 (first_any (HH.out.below HB.out) (xs := placesL L.length a L.length) (enters_of Try.func144 (by kernel_rfl) rfl) (by omega) HSQ.out)).mono ?_
  rintro e W2 ⟨rfl, hb2⟩
  go_wp2
  go_ret
  exact ⟨rfl, HB.out.trans (hb2.mono (by omega))⟩
theorem formatted_any (h : PlAt w b g r c cur L) : Calls Try.prog 38 #[.pointer (some ⟨b, 0, none⟩)] w fun e W => e = .returned (.bool (befL L 0 != -1)) ∧ Below w.heap.size w W := by
  have hm := h.most
  have hbd := bef_bd L 0
  have HH := Lib.hid (before_any h 0)
  obtain ⟨z, hz⟩ : ∃ z, z = befL L 0 := ⟨_, rfl⟩
  rw [← hz] at HH hbd ⊢
  clear hz h
  go_enter Try.func38, Try.ntmps38
  go_wp2_with (go_at_call 72; refine HH.out.mono ?_; rintro e w' ⟨rfl, hb⟩)
  go_ret
  exact ⟨rfl, hb⟩
theorem size_fd : (Try.prog.info? 74).map (·.size) = some 3 := by kernel_rfl
def BoL (L : List Cl) : Prop := ∀ i, 0 ≤ (atL L i).b ∧ (atL L i).b ≤ 255
/-- The field that begins at a place. -/
def begF (L : List Cl) (s : Int) : Fd := ⟨s, mv L.length (aftL L s) (-1 - s), (atL L s).b % 64⟩
theorem value_any (y : Int) (w : World) (h0 : 0 ≤ y) (h1 : y ≤ 255) : Calls Try.prog 122 #[.int .u8 y] w fun e w' => e = .returned (.int .i64 (y % 64)) ∧ w = w' := by
  go_enter Try.func122, Try.ntmps122
  go_wp2
  go_ret
  exact ⟨ret_int (by omega), rfl⟩
set_option maxHeartbeats 800000 in
theorem begun_any (h : PlAt w b g r c cur L) (s : Int) (hs : 0 ≤ s ∧ s < 4096) (hbo : BoL L) : Calls Try.prog 94 #[.pointer (some ⟨b, 0, none⟩), .int .i64 s] w fun e W => e = .returned (begF L s).val ∧ Below w.heap.size w W := by
  have hm := h.most
  have hn : Hid (cells r c = (L.length : Int)) := Lib.hid h.size
  have hbs := hbo s
  obtain ⟨k, hk⟩ : ∃ k, k = mv L.length (aftL L s) (-1 - s) := ⟨_, rfl⟩
  obtain ⟨z, hz⟩ : ∃ z, z = (atL L s).b % 64 := ⟨_, rfl⟩
  have hz0 : 0 ≤ z ∧ z < 64 := by omega
  obtain ⟨⟨yb, yg, ys, yl, yc⟩, hy⟩ : ∃ y, y = atL L s := ⟨_, rfl⟩
  rw [← hy] at hz hbs
  simp only at hz hbs
  have HY := Lib.hid hy
  have HZ := Lib.hid hz
  have HK := Lib.hid hk
  have hwz : IntKind.u8.wrap z = z := by simp [IntKind.wrap, IntKind.bits]; omega
  have e : (begF L s).val = .agg #[.int .i64 s, .int .i64 k, .int .u8 z] := by unfold begF; rw [← hk, ← hy, ← hz]
  rw [e]
  have hcb := cell_byte yb yg ys yl yc
  have HH := Lib.hid (h.alloc (.cells #[.int .i64 0, .int .i64 0, .int .u8 0] 74))
  have hb0 := Lib.hid (below_alloc w (.cells #[.int .i64 0, .int .i64 0, .int .u8 0] 74))
  have hn0 := heap_alloc_new w (.cells #[.int .i64 0, .int .i64 0, .int .u8 0] 74)
  clear h hy hz hk e hbo
  go_enter Try.func94, Try.ntmps94
  go_wp2_with (first
    | (go_at_call 68; refine (size_any HH.out).mono ?_; rintro e w1 ⟨rfl, hb1⟩; have H1 := Lib.hid (HH.out.below hb1); have B1 := Lib.hid (hb0.out.trans (hb1.mono (by simp))); have c1 := (hb1.block w.heap.size (by simp)).trans hn0; clear hb1)
    | (go_at_call 121; refine (after_any H1.out s).mono ?_; rintro e w2 ⟨rfl, hb2⟩; have H2 := Lib.hid (H1.out.below hb2); have B2 := Lib.hid (B1.out.trans (hb2.mono B1.out.size)); have c2 := (hb2.block w.heap.size (lt_of_block c1)).trans c1; clear hb2)
    | (go_at_call 69; refine (move_any r c _ _ L.length w2 hn (by omega) (by omega)).mono ?_; rintro e w3 ⟨he, hb3⟩; rw [← HK.out] at he; subst he; have H3 := Lib.hid (H2.out.below hb3); have B3 := Lib.hid (B2.out.trans (hb3.mono B2.out.size)); have c3 := (hb3.block w.heap.size (lt_of_block c2)).trans c2; clear hb3)
    | (go_at_call 40; refine (at_any H3.out s).mono ?_; rintro e w4 ⟨he, hb4⟩; rw [← HY.out] at he; simp only [Cl.val] at he; subst he; have B4 := Lib.hid (B3.out.trans (hb4.mono B3.out.size)); have c4 := (hb4.block w.heap.size (lt_of_block c3)).trans c3; clear hb4
       have d0 : w4.cell? ⟨w.heap.size, 0, none⟩ = some (.int .i64 0) := by simp [World.cell?, c4]
       have d1 : w4.cell? ⟨w.heap.size, 1, none⟩ = some (.int .i64 0) := by simp [World.cell?, c4]
       have d2 : w4.cell? ⟨w.heap.size, 2, none⟩ = some (.int .u8 0) := by simp [World.cell?, c4]
       have d3 : ∀ o, w4.frozen? ⟨w.heap.size, o, none⟩ = false := fun o => by simp [World.frozen?, c4])
    | (go_at_call 122; refine (value_any yb _ hbs.1 hbs.2).mono ?_; rintro e w5 ⟨he, rfl⟩; rw [← HZ.out] at he; subst he))
  have hh : (((w4.setCell ⟨w.heap.size, 0, none⟩ (.int .i64 s)).setCell ⟨w.heap.size, 1, none⟩ (.int .i64 k)).setCell ⟨w.heap.size, 2, none⟩ (.int .u8 z)).heap[w.heap.size]? = some (.cells #[.int .i64 s, .int .i64 k, .int .u8 z] 74 (0, 0)) := by
    rw [heap_set (heap_set (heap_set c4 0 _) 1 _) 2 _]; simp
  refine bodyPost_ret (results_cell_row rfl _ _ w.heap.size 74 _ (0, 0) _ rfl hh Try.underlying74 rfl size_fd) rfl ⟨rfl, ?_⟩
  exact B4.out.trans (((turn_set w4 w.heap.size 0 _).trans ((turn_set _ w.heap.size 1 _).trans (turn_set _ w.heap.size 2 _))).at_below B4.out.size (Nat.le_refl _))
end
end Go.Proofs.Ytlcjiffnmpkndaa.Pl
