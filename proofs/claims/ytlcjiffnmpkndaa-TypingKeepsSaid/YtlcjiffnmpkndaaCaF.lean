/-
  The example of caret's laws.
-/
import Derived.Test.YtlcjiffnmpkndaaCaE
namespace Go.Proofs.Ytlcjiffnmpkndaa.Pl
open Go.RowKit Go.Shelf Base
set_option linter.unusedVariables false
set_option linter.unusedSimpArgs false

theorem bo_ca {L : List Cl} (h : ∀ x ∈ L, 0 ≤ x.b ∧ x.b ≤ 255) : BoL L := by
  intro i
  unfold atL
  split
  · cases hx : L[i.toNat]? with
    | none => exact ⟨by decide, by decide⟩
    | some x => exact h x (List.mem_of_getElem? hx)
  · exact ⟨by decide, by decide⟩
def cax (b : Int) (s : Bool) : Cl := ⟨b, false, s, 0, 0⟩
def caL : List Cl := [cax 0 true, cax 193 false, cax 32 true, cax 0 true, cax 194 false, cax 195 false]
/-- The plane behind k of the cells. -/
def caK : Nat → List Cl
  | 0 => List.replicate 6 c0
  | k + 1 => setL (caK k) k ((caL[k]?).getD c0)
theorem caK6 : caK 6 = caL := by kernel_rfl
theorem ca_bo : BoL caL := bo_ca (fun x hx => by have := List.all_eq_true.1 (show caL.all (fun x => decide (0 ≤ x.b ∧ x.b ≤ 255)) = true by decide) x hx; simpa using this)
theorem ca_at : tabL caL 1 = 4 ∧ tabL caL 4 = 1 ∧ backC caL 5 = 4 ∧ backC caL 4 = 1 ∧ nlL caL 3 1 = 4 ∧ ctMoveL caL.length 2 3 4 (-1) 1 = 2 ∧ homeL caL = 1 ∧ onL caL 1 = 3 := by decide +kernel
/-- What the example holds. -/
structure CsQ (w : World) (b g : Nat) (cur : Int) (L : List Cl) (W : World) : Prop where
  p : PlAt W b g 2 3 cur L
  old : Below w.heap.size w W
  lb : w.heap.size ≤ b
  lg : w.heap.size ≤ g
section
variable {w W W' : World} {b g : Nat} {cur : Int} {L : List Cl}
theorem CsQ.below (h : CsQ w b g cur L W) (t : Below W.heap.size W W') : CsQ w b g cur L W' := ⟨h.p.below t, h.old.trans (t.mono h.old.size), h.lb, h.lg⟩
theorem CsQ.turn (h : CsQ w b g cur L W) {cur' : Int} {L' : List Cl} (hp : PlAt W' b g 2 3 cur' L') (t : Turn (Or2 (At b) (At g)) W W') : CsQ w b g cur' L' W' :=
  ⟨hp, h.old.trans (t.below h.old.size (fun k hk => by have h1 := h.lb; have h2 := h.lg; rcases hk with hk | hk <;> unfold At at hk <;> omega)), h.lb, h.lg⟩
theorem CsQ.turn1 (h : CsQ w b g cur L W) {cur' : Int} {L' : List Cl} (hp : PlAt W' b g 2 3 cur' L') (t : Turn (At g) W W') : CsQ w b g cur' L' W' := h.turn hp (t.mono fun k hk => .inr hk)
theorem CsQ.turn0 (h : CsQ w b g cur L W) {cur' : Int} {L' : List Cl} (hp : PlAt W' b g 2 3 cur' L') (t : Turn (At b) W W') : CsQ w b g cur' L' W' := h.turn hp (t.mono fun k hk => .inl hk)
end
def calit : Array Value := #[.int .u8 0, .bool false, .bool true, .int .u8 0, .int .u8 0, .int .u8 193, .bool false, .bool false, .int .u8 0, .int .u8 0, .int .u8 32, .bool false, .bool true, .int .u8 0, .int .u8 0, .int .u8 0, .bool false, .bool true, .int .u8 0, .int .u8 0, .int .u8 194, .bool false, .bool false, .int .u8 0, .int .u8 0, .int .u8 195, .bool false, .bool false, .int .u8 0, .int .u8 0]
theorem ca_five {W : World} {s k : Nat} (h : W.heap[s]? = some (.cells calit 58 (0, 0))) (hk : k < 6) : C5 W s (k * 5) ((caL[k]?).getD c0) := by
  have : k = 0 ∨ k = 1 ∨ k = 2 ∨ k = 3 ∨ k = 4 ∨ k = 5 := by omega
  unfold calit at h
  rcases this with rfl | rfl | rfl | rfl | rfl | rfl <;> exact ⟨by simp [World.cell?, h, caL, cax], by simp [World.cell?, h, caL, cax], by simp [World.cell?, h, caL, cax], by simp [World.cell?, h, caL, cax], by simp [World.cell?, h, caL, cax]⟩
theorem ca_cells : cells 2 3 = ((6 : Nat) : Int) := by decide
theorem point_k {w : World} {b g : Nat} {r c cur : Int} {L : List Cl} (h : PlAt w b g r c cur L) (i : Int) (hi : hasL L i = true) : Calls Try.prog 34 #[.pointer (some ⟨b, 0, none⟩), .int .i64 i] w fun e W => e = .returned (.bool true) ∧ PlAt W b g r c i L ∧ Turn (At b) w W := by
  have h1 := point_any h i
  rw [hi, if_pos rfl] at h1
  exact h1
/-- A contract, its number said. -/
theorem gop_k {w : World} {b g : Nat} {r c : Int} {L : List Cl} {x y : Int} {f : Nat} {args : Array Value} (h : Calls Try.prog f args w (GoP w b g r c L x)) (e : x = y) : Calls Try.prog f args w (GoP w b g r c L y) := e ▸ h
set_option maxRecDepth 100000 in
set_option maxHeartbeats 8000000 in
theorem ca_alive (w : World) : Calls Try.prog 18 #[] w fun e W => e = .returned (.bool true) ∧ Below w.heap.size w W := by
  have HN := Lib.hid (new_yes 2 3 6 w ca_cells (by omega) (by omega))
  go_enter Try.func18, Try.ntmps18
  go_wp2_with (go_at_call 55; (with_reducible refine HN.out.mono ?_); rintro e w1 ⟨b, g, rfl, hp, hb, l1, l2⟩; have H1 := Lib.hid (show CsQ w b g 0 (caK 0) w1 from ⟨hp, hb, l1, l2⟩); clear hp hb l1 l2)
  have n2 := H1.out.p.ltg
  have n3 := H1.out.p.lt
  have HL0 := Lib.hid (show (w1.alloc (.cells calit 58)).heap[w1.heap.size]? = some (.cells calit 58 (0, 0)) from heap_alloc_new w1 _)
  have H2 := Lib.hid (H1.out.below (below_alloc w1 (.cells calit 58)))
  unfold calit at HL0 H2
  obtain ⟨s, hs⟩ : ∃ s, s = w1.heap.size := ⟨_, rfl⟩
  rw [← hs] at HL0 n2 n3 ⊢
  obtain ⟨W2, hW2⟩ : ∃ W2, W2 = w1.alloc (.cells #[.int .u8 0, .bool false, .bool true, .int .u8 0, .int .u8 0, .int .u8 193, .bool false, .bool false, .int .u8 0, .int .u8 0, .int .u8 32, .bool false, .bool true, .int .u8 0, .int .u8 0, .int .u8 0, .bool false, .bool true, .int .u8 0, .int .u8 0, .int .u8 194, .bool false, .bool false, .int .u8 0, .int .u8 0, .int .u8 195, .bool false, .bool false, .int .u8 0, .int .u8 0] 58) := ⟨_, rfl⟩
  rw [← hW2] at HL0 H2 ⊢
  clear hs hW2 H1 HN
  go_loopw [28] (fun p wr => ∃ k : Nat, p = .int .i64 k ∧ k ≤ 6 ∧ CsQ w b g 0 (caK k) wr ∧ wr.heap[s]? = some (.cells calit 58 (0, 0))) (fun p _ => 6 - (intOf p).toNat)
  case atStart => exact ⟨0, rfl, by omega, H2.out, HL0.out⟩
  case round =>
    obtain ⟨k, rfl, hk, hq, hl⟩ := hrel
    have HQ := Lib.hid hq
    have HL := Lib.hid hl
    clear H2 HL0 hq
    by_cases hk1 : k < 6
    · have hki : (k : Int) < 6 := by omega
      obtain ⟨q0, q1, q2, q3, q4⟩ := ca_five hl hk1
      obtain ⟨⟨xb, xg, xs, xl, xc⟩, hx⟩ : ∃ x, x = (caL[k]?).getD c0 := ⟨_, rfl⟩
      rw [← hx] at q0 q1 q2 q3 q4
      simp only at q0 q1 q2 q3 q4
      have HX := Lib.hid hx
      have hsl := lt_of_block hl
      have hba := below_alloc wr (.cells #[.int .u8 xb, .bool xg, .bool xs, .int .u8 xl, .int .u8 xc] 58)
      have HQ2 := Lib.hid (HQ.out.below hba)
      have HL2 := Lib.hid ((hba.block s hsl).trans HL.out)
      clear hl hx hba
      go_wp2_with (go_at_call 57; (with_reducible refine (set_any HQ2.out.p k ⟨xb, xg, xs, xl, xc⟩).mono ?_); rintro e w3 ⟨rfl, hp, ht⟩; have H3 := Lib.hid (HQ2.out.turn1 hp ht); have HL3 := Lib.hid ((ht.block s (lt_of_block HL2.out) (show ¬ s = g by omega)).trans HL2.out); clear hp ht)
      exact ⟨⟨k + 1, by go_num, by omega, by rw [show caK (k + 1) = setL (caK k) k ⟨xb, xg, xs, xl, xc⟩ from by rw [HX.out]; rfl]; exact H3.out, HL3.out⟩, by simp [intOf]; omega⟩
    · obtain rfl : k = 6 := by omega
      have h5 := HQ.out
      rw [caK6] at h5
      have HA := Lib.hid h5
      clear h5 hl HQ
      obtain ⟨e1, e2, e3, e4, e5, e6, e7, e8⟩ := ca_at
      have E1 := Lib.hid e1
      have E2 := Lib.hid e2
      have E3 := Lib.hid e3
      have E4 := Lib.hid e4
      have E5 := Lib.hid e5
      have E6 := Lib.hid e6
      have E7 := Lib.hid e7
      have E8 := Lib.hid e8
      clear e1 e2 e3 e4 e5 e6 e7 e8
      go_wp2_with (first
        | (go_at_call 34; (with_reducible refine (point_k HA.out.p 1 (by decide)).mono ?_); rintro e wB ⟨rfl, hp, ht⟩; have HB := Lib.hid (HA.out.turn0 hp ht); clear hp ht)
        | (go_at_call 28; (with_reducible refine (gop_k (tab_any HB.out.p ca_bo) E1.out).mono ?_); rintro e wC ⟨rfl, hp, ht⟩; have HC := Lib.hid (HB.out.turn0 hp ht); clear hp ht)
        | (go_at_call 28; (with_reducible refine (gop_k (tab_any HC.out.p ca_bo) E2.out).mono ?_); rintro e wD ⟨rfl, hp, ht⟩; have HD := Lib.hid (HC.out.turn0 hp ht); clear hp ht)
        | (go_at_call 34; (with_reducible refine (point_k HD.out.p 5 (by decide)).mono ?_); rintro e wE ⟨rfl, hp, ht⟩; have HE := Lib.hid (HD.out.turn0 hp ht); clear hp ht)
        | (go_at_call 29; (with_reducible refine (gop_k (back_cany HE.out.p ca_bo) E3.out).mono ?_); rintro e wF ⟨rfl, hp, ht⟩; have HF := Lib.hid (HE.out.turn0 hp ht); clear hp ht)
        | (go_at_call 29; (with_reducible refine (gop_k (back_cany HF.out.p ca_bo) E4.out).mono ?_); rintro e wG ⟨rfl, hp, ht⟩; have HG := Lib.hid (HF.out.turn0 hp ht); clear hp ht)
        | (go_at_call 30; (with_reducible refine (gop_k (newline_any HG.out.p ca_bo (by decide)) E5.out).mono ?_); rintro e wH ⟨rfl, hp, ht⟩; have HH := Lib.hid (HG.out.turn0 hp ht); clear hp ht)
        | (go_at_call 27; (with_reducible refine (gop_k (ctMove_any HH.out.p (-1) 1) E6.out).mono ?_); rintro e wI ⟨rfl, hp, ht⟩; have HI := Lib.hid (HH.out.turn0 hp ht); clear hp ht)
        | (go_at_call 31; (with_reducible refine (gop_k (ctHome_any HI.out.p ca_bo) E7.out).mono ?_); rintro e wJ ⟨rfl, hp, ht⟩; have HJ := Lib.hid (HI.out.turn0 hp ht); clear hp ht)
        | (go_at_call 32; (with_reducible refine (gop_k (on_any HJ.out.p ca_bo) E8.out).mono ?_); rintro e wK ⟨rfl, hp, ht⟩; have HK := Lib.hid (HJ.out.turn0 hp ht); clear hp ht)
        | (go_at_call 33; (with_reducible refine (cursor_any HK.out.p).mono ?_); rintro e wZ ⟨rfl, rfl⟩))
      go_ret
      exact ⟨rfl, HK.out.old⟩
end Go.Proofs.Ytlcjiffnmpkndaa.Pl
