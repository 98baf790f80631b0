/-
  Contracts of package caret: the cursor set, the first place of an open field, the places that go back from one.
-/
import Derived.Test.YtlcjiffnmpkndaaFlI
namespace Go.Proofs.Ytlcjiffnmpkndaa.Pl
open Go.RowKit Go.Shelf Base
attribute [local go_sem] Oper.semAt_some
set_option linter.unusedVariables false
set_option linter.unusedSimpArgs false

section
variable {w : World} {b g : Nat} {r c cur : Int} {L : List Cl}
theorem ctpoint_any (h : PlAt w b g r c cur L) (i : Int) (hi : 0 ≤ i ∧ i < L.length) : Calls Try.prog 70 #[.pointer (some ⟨b, 0, none⟩), .int .i64 i] w fun e W => e = .returned (.int .i64 i) ∧ PlAt W b g r c i L ∧ Turn (At b) w W := by
  have HH := Lib.hid h
  have hi' : hasL L i = true := decide_eq_true hi
  clear h
  go_enter Try.func70, Try.ntmps70
  go_wp2_with (go_at_call 34; refine (point_any HH.out i).mono ?_; rintro e w1 ⟨rfl, hp, ht⟩; rw [hi', if_pos rfl] at hp)
  go_ret
  exact ⟨rfl, hp, ht⟩
/-- Is it an attribute of an open field? -/
def goodE (L : List Cl) (s : Int) : Bool := (atL L s).st && (!Attr.prot (atL L s).b && !(atL L (mv L.length s 1)).st)
def entV (L : List Cl) (s : Int) : Int := if goodE L s then mv L.length s 1 else 0
theorem size_any' (h : PlAt w b g r c cur L) : Calls Try.prog 68 #[.pointer (some ⟨b, 0, none⟩)] w fun e W' => e = .returned (.agg #[.int .i64 r, .int .i64 c]) ∧ Below w.heap.size w W' := size_any h
set_option maxHeartbeats 1000000 in
theorem entry_any (h : PlAt w b g r c cur L) (s : Int) (hbo : BoL L) : Calls Try.prog 73 #[.pointer (some ⟨b, 0, none⟩), .int .i64 s] w fun e W => e = .returned (.tuple #[.int .i64 (entV L s), .bool (goodE L s)]) ∧ Below w.heap.size w W := by
  have hm := h.most
  have hn : Hid (cells r c = (L.length : Int)) := Lib.hid h.size
  have hbs := hbo s
  have HH := Lib.hid h
  obtain ⟨k, hk⟩ : ∃ k, k = mv L.length s 1 := ⟨_, rfl⟩
  obtain ⟨⟨yb, yg, ys, yl, yc⟩, hy⟩ : ∃ y, y = atL L s := ⟨_, rfl⟩
  obtain ⟨⟨zb, zg, zs, zl, zc⟩, hz⟩ : ∃ z, z = atL L k := ⟨_, rfl⟩
  have hE : goodE L s = (ys && (!Attr.prot yb && !zs)) := by unfold goodE; rw [← hk, ← hy, ← hz]
  have hV : entV L s = if (ys && (!Attr.prot yb && !zs)) = true then k else 0 := by unfold entV; rw [hE, ← hk]
  rw [hE, hV]
  rw [← hy] at hbs
  simp only at hbs
  have HK := Lib.hid hk
  have HY := Lib.hid hy
  have HZ := Lib.hid hz
  have hcs := cell_start zb zg zs zl zc
  clear h hbo hk hy hz hE hV
  obtain ⟨p, hp⟩ : ∃ p, p = Attr.prot yb := ⟨_, rfl⟩
  rw [← hp]
  have HP := Lib.hid hp
  clear hp
  go_enter Try.func73, Try.ntmps73
  go_wp2_with fail
  refine (at_any HH.out s).mono ?_
  rintro e w1 ⟨he, hb1⟩
  rw [← HY.out] at he
  simp only [Cl.val] at he
  subst he
  have H1 := Lib.hid (HH.out.below (hb1.alloc hb1.size (.cells #[.int .u8 yb, .bool yg, .bool ys, .int .u8 yl, .int .u8 yc] 58)))
  have B1 := Lib.hid (hb1.alloc hb1.size (.cells #[.int .u8 yb, .bool yg, .bool ys, .int .u8 yl, .int .u8 yc] 58))
  have c1 := heap_alloc_new w1 (.cells #[.int .u8 yb, .bool yg, .bool ys, .int .u8 yl, .int .u8 yc] 58)
  clear hb1
  have FIN : Calls Try.prog 68 #[.pointer (some ⟨b, 0, none⟩)] (w1.alloc (.cells #[.int .u8 yb, .bool yg, .bool ys, .int .u8 yl, .int .u8 yc] 58)) fun e W' => e = .returned (.agg #[.int .i64 r, .int .i64 c]) ∧ Below (w1.alloc (.cells #[.int .u8 yb, .bool yg, .bool ys, .int .u8 yl, .int .u8 yc] 58)).heap.size (w1.alloc (.cells #[.int .u8 yb, .bool yg, .bool ys, .int .u8 yl, .int .u8 yc] 58)) W' := size_any H1.out
  have HF := Lib.hid FIN
  clear FIN
  obtain ⟨W1, hW1⟩ : ∃ W1, W1 = w1.alloc (.cells #[.int .u8 yb, .bool yg, .bool ys, .int .u8 yl, .int .u8 yc] 58) := ⟨_, rfl⟩
  rw [← hW1] at H1 B1 HF
  have c1' : W1.heap[w1.heap.size]? = some (.cells #[.int .u8 yb, .bool yg, .bool ys, .int .u8 yl, .int .u8 yc] 58 (0, 0)) := by rw [hW1]; exact c1
  have d0 : W1.cell? ⟨w1.heap.size, 0, none⟩ = some (.int .u8 yb) := by simp [World.cell?, c1']
  have d2 : W1.cell? ⟨w1.heap.size, 2, none⟩ = some (.bool ys) := by simp [World.cell?, c1']
  have HW1 := Lib.hid hW1.symm
  clear c1 c1' hW1
  cases ys with
  | false =>
    go_wp2_with fail
    rw [HW1.out]
    go_wp2
    go_ret2
    exact ⟨by simp, B1.out⟩
  | true =>
    cases p with
    | true =>
      go_wp2_with fail
      rw [HW1.out]
      go_wp2_with (go_at_call 81; refine (Attr.protected_any yb _ hbs.1 hbs.2).mono ?_; rintro e w2 ⟨he, rfl⟩; rw [← HP.out] at he; subst he)
      go_ret2
      exact ⟨by simp, B1.out⟩
    | false =>
      cases zs with
      | true =>
        go_wp2_with fail
        rw [HW1.out]
        go_wp2_with (first
          | (go_at_call 81; refine (Attr.protected_any yb _ hbs.1 hbs.2).mono ?_; rintro e w2 ⟨he, rfl⟩; rw [← HP.out] at he; subst he)
          | (go_at_call 68; refine HF.out.mono ?_; rintro e w2 ⟨rfl, hb2⟩; have H2 := Lib.hid (H1.out.below hb2); have B2 := Lib.hid (B1.out.trans (hb2.mono B1.out.size)); clear hb2)
          | (go_at_call 69; refine (move_any r c _ _ L.length _ hn (by omega) (by omega)).mono ?_; rintro e w3 ⟨he, hb3⟩; rw [← HK.out] at he; subst he; have H3 := Lib.hid (H2.out.below hb3); have B3 := Lib.hid (B2.out.trans (hb3.mono B2.out.size)); clear hb3)
          | (go_at_call 40; refine (at_any H3.out k).mono ?_; rintro e w4 ⟨he, hb4⟩; rw [← HZ.out] at he; simp only [Cl.val] at he; subst he; have B4 := Lib.hid (B3.out.trans (hb4.mono B3.out.size)); clear hb4))
        go_ret2
        exact ⟨by simp, B4.out⟩
      | false =>
        go_wp2_with fail
        rw [HW1.out]
        go_wp2_with (first
          | (go_at_call 81; refine (Attr.protected_any yb _ hbs.1 hbs.2).mono ?_; rintro e w2 ⟨he, rfl⟩; rw [← HP.out] at he; subst he)
          | (go_at_call 68; refine HF.out.mono ?_; rintro e w2 ⟨rfl, hb2⟩; have H2 := Lib.hid (H1.out.below hb2); have B2 := Lib.hid (B1.out.trans (hb2.mono B1.out.size)); clear hb2)
          | (go_at_call 69; refine (move_any r c _ _ L.length _ hn (by omega) (by omega)).mono ?_; rintro e w3 ⟨he, hb3⟩; rw [← HK.out] at he; subst he; have H3 := Lib.hid (H2.out.below hb3); have B3 := Lib.hid (B2.out.trans (hb3.mono B2.out.size)); clear hb3)
          | (go_at_call 40; refine (at_any H3.out k).mono ?_; rintro e w4 ⟨he, hb4⟩; rw [← HZ.out] at he; simp only [Cl.val] at he; subst he; have B4 := Lib.hid (B3.out.trans (hb4.mono B3.out.size)); clear hb4))
        go_ret2
        exact ⟨by simp, B4.out⟩
end
end Go.Proofs.Ytlcjiffnmpkndaa.Pl
