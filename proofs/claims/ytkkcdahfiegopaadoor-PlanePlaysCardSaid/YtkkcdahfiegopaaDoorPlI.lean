/-
  Contract of Rows of package plane.
-/
import Derived.Test.YtkkcdahfiegopaaDoorPlH
namespace Go.Proofs.YtkkcdahfiegopaaDoor.Pl
open Go.RowKit Go.Shelf Base
set_option linter.unusedVariables false
set_option linter.unusedSimpArgs false

theorem info_str : (Tryd.prog.info? 9).map (fun i => (i.zero, i.size, i.bytes)) = some (some (.string ByteArray.empty), 1, 16) := by kernel_rfl
def strV (l : List UInt8) : Value := .string ⟨l.toArray⟩
/-- The first k rows as texts. -/
def rowsL (page : Int) (L : List Cl) (c : Int) (k : Nat) : List Value := (List.range k).map fun i : Nat => strV (textL page L ((i : Int) * c) c)
theorem rowsL_length (page : Int) (L : List Cl) (c : Int) (k : Nat) : (rowsL page L c k).length = k := by simp [rowsL]
theorem rowsL_succ (page : Int) (L : List Cl) (c : Int) (k : Nat) : rowsL page L c (k + 1) = rowsL page L c k ++ [strV (textL page L ((k : Int) * c) c)] := by simp [rowsL, List.range_succ]
theorem own_shape {W : World} {base : Nat} {e : TypeId} {k n : Nat} {v : Value} {xs : List Value} (h : W.ownsRow base e k v n xs) : ∃ a cap, v = .slice a n cap := by
  rcases h.2 with ⟨rfl, h0⟩ | ⟨g, cap, cur, rfl, _⟩
  · exact ⟨none, 0, by rw [h0]⟩
  · exact ⟨_, cap, rfl⟩
theorem own_below {W W' : World} {base : Nat} {e : TypeId} {k n : Nat} {v : Value} {xs : List Value} (h : W.ownsRow base e k v n xs) (t : Below W.heap.size W W') : W'.ownsRow base e k v n xs :=
  h.kept (row := none) (grown_of_below t) (by
    rcases h.2 with ⟨rfl, _⟩ | ⟨g, cap, cur, rfl, _⟩
    · exact .inl rfl
    · exact .inr (by simp [Value.ownBlock]))
theorem own_not {W : World} {base : Nat} {e t : TypeId} {k n q : Nat} {v : Value} {xs : List Value} {cs : Array Value} (h : W.ownsRow base e k v n xs) (hq : W.heap[q]? = some (.cells cs t (0, 0))) (hte : t ≠ e) : v.ownBlock ≠ some q := by
  intro e'
  rcases h.2 with ⟨rfl, _⟩ | ⟨g, cap, cur, rfl, _, hg, _⟩
  · simp [Value.ownBlock] at e'
  · simp [Value.ownBlock] at e'
    subst e'
    rw [hq] at hg; cases hg; exact hte rfl
/-- What the loop of Rows knows. -/
def RwRel (w W0 : World) (q R : Nat) (c page : Int) (L : List Cl) (v p : Value) (wr : World) : Prop :=
  ∃ k : Nat, k ≤ R ∧ p = .int .i64 k ∧ wr.ownsRow (w.heap.size + 1) 9 1 v k (rowsL page L c k) ∧ Below w.heap.size w wr ∧ wr.heap[q]? = some (.cells #[.int .i64 (R : Int), .int .i64 c] 23 (0, 0))
set_option maxRecDepth 100000 in
set_option maxHeartbeats 4000000 in
theorem rows_any {w : World} {b g : Nat} {r c cur : Int} {L : List Cl} (h : PlAt w b g r c cur L) (hok : OkL L) (page : Int) :
    Calls Tryd.prog 22 #[.pointer (some ⟨b, 0, none⟩), .int .i64 page] w fun e W => ∃ v, e = .returned v ∧ W.ownsRow (w.heap.size + 1) 9 1 v r.toNat (rowsL page L c r.toNat) ∧ Below w.heap.size w W := by
  obtain ⟨i0, hi, hz0, hz1, hz2⟩ := info_parts info_str
  have hpos := h.pos
  obtain ⟨_, r0, r1, c0', c1⟩ := cells_pos r c L.length h.size (by omega)
  have HH := Lib.hid h
  obtain ⟨R, hR⟩ : ∃ R : Nat, R = r.toNat := ⟨_, rfl⟩
  have hrR : r = (R : Int) := by omega
  have HR := Lib.hid hR
  subst hrR
  clear hR
  have HSZ := Lib.hid (size_any h)
  clear h
  go_enter Tryd.func22, Tryd.ntmps22
  go_wp2_with fail
  refine HSZ.out.mono ?_
  rintro e w1 ⟨rfl, hb1⟩
  obtain ⟨q, hq⟩ : ∃ q, q = w1.heap.size := ⟨_, rfl⟩
  have hwq : w.heap.size ≤ q := by rw [hq]; exact hb1.size
  obtain ⟨W0, hW0⟩ : ∃ W0, W0 = w1.alloc (.cells #[.int .i64 (R : Int), .int .i64 c] 23) := ⟨_, rfl⟩
  have e2 := heap_alloc_new w1 (.cells #[.int .i64 (R : Int), .int .i64 c] 23)
  have hbW : Below w.heap.size w W0 := by
    rw [hW0]; exact hb1.alloc hb1.size _
  rw [← hW0, ← hq] at e2
  have hqW : q < W0.heap.size := lt_of_block e2
  have t0 : W0.cell? ⟨q, 0, none⟩ = some (.int .i64 (R : Int)) := by simp [World.cell?, e2]
  have E2 := Lib.hid e2
  have HW0 := Lib.hid hW0.symm
  have HBW := Lib.hid hbW
  have HQ := Lib.hid hq.symm
  clear hW0 e2 hb1 hbW HSZ hq
  go_wp2_with fail
  rw [HW0.out, HQ.out]
  go_wp2_with fail
  go_loopw [5, 12] (RwRel w W0 q R c page L) (fun _ p _ => R - (intOf p).toNat)
  case atStart => exact ⟨0, Nat.zero_le _, rfl, World.ownsRow_nil _ _ _ _, HBW.out, E2.out⟩
  case round =>
    obtain ⟨k, hk, rfl, hown, hbw, hbox⟩ := hrel
    have x1 : wr.cell? ⟨q, 1, none⟩ = some (.int .i64 c) := by simp [World.cell?, hbox]
    have x0 : wr.cell? ⟨q, 0, none⟩ = some (.int .i64 (R : Int)) := by simp [World.cell?, hbox]
    have HBX := Lib.hid hbox
    have HBB := Lib.hid hbw
    have HP := Lib.hid (HH.out.below hbw)
    clear hbox hbw
    by_cases hkR : k < R
    · have hki : (k : Int) < (R : Int) := by omega
      have hkc : (k : Int) * c ≤ 43 * 132 := by
        have h1 : (k : Int) * c ≤ 43 * c := Int.mul_le_mul_of_nonneg_right (by omega) (by omega)
        omega
      have hkc0 : 0 ≤ (k : Int) * c := Int.mul_nonneg (by omega) (by omega)
      have hT : Calls Tryd.prog 24 #[.pointer (some ⟨b, 0, none⟩), .int .i64 page, .int .i64 (wrap64 ((k : Int) * c)), .int .i64 c] wr fun e W => e = .returned (.string ⟨(textL page L ((k : Int) * c) c).toArray⟩) ∧ Below wr.heap.size wr W := by
        rw [IntWalk.wrap64_in _ (by omega)]
        exact text_any HP.out hok page ((k : Int) * c) c
      have HT := Lib.hid hT
      clear hT hkc hkc0
      have HOWN := Lib.hid hown
      clear hown
      go_wp2_with (first | (go_at_call 24; (with_reducible refine HT.out.mono ?_); rintro e w3 ⟨rfl, hb3⟩; have HB3 := Lib.hid hb3; have hown3 := own_below HOWN.out hb3; obtain ⟨sv, hsv⟩ : ∃ sv, sv = ByteArray.mk (textL page L ((k : Int) * c) c).toArray := ⟨_, rfl⟩; rw [← hsv]; have HSV := Lib.hid hsv; clear hsv hb3) | (at_builtin; refine wpList_append_own _ rfl _ _ 51 rfl (w.heap.size + 1) 9 i0 (.string ByteArray.empty) 1 16 Tryd.underlying51 hi hz0 hz1 hz2 rfl (by decide) _ _ _ rfl (hown3.alloc _) ⟨w3.heap.size, 0, none⟩ 1 1 [.string sv] rfl rfl (cell_one_new _ _ _) (by simp [Value.oneCell']) (by unfold maxLen; omega) (by omega) (by have := HBB.out.size; have := HB3.out.size; have := lt_of_block HBX.out; simp; omega) ?_; intro v' w5 hown' hgrow _))
      have hnot := own_not hown3 ((HB3.out.block q (lt_of_block HBX.out)).trans HBX.out) (by decide)
      go_roundw
      case rel =>
        refine ⟨k + 1, by omega, by go_num, ?_, ?_, ?_⟩
        · rw [rowsL_succ]
          have hsv := HSV.out
          unfold strV
          rw [← hsv]
          exact hown'
        · have hb := HBB.out.trans (HB3.out.mono HBB.out.size)
          exact (hb.alloc hb.size _).grown hgrow (Nat.le_trans hb.size (by simp)) (fun j hj => by have := (hown3.lt j hj).1; omega)
        · have e3 := (HB3.out.block q (lt_of_block HBX.out)).trans HBX.out
          exact (hgrow.block q (by simp; have := lt_of_block e3; omega) (fun e => hnot e.symm)).trans ((Below.heap_alloc _ _ _ (lt_of_block e3)).trans e3)
      case measure => simp [intOf]; omega
    · obtain rfl : k = R := by omega
      go_wp2
      go_ret
      exact ⟨_, rfl, by rw [← HR.out]; exact hown, HBB.out⟩
end Go.Proofs.YtkkcdahfiegopaaDoor.Pl
