/-
  The statements' own example of records.
-/
import Derived.Test.YtimidoaafllnkaaRecD
import Derived.Laws.OwnMore
namespace Go.Proofs.Ytimidoaafllnkaa.Rec
open Go.RowKit Base Iac
set_option linter.unusedVariables false

/-- make([]byte, n), as one step. -/
theorem make_bytes {w : World} {ops : Array Oper} {rest : List Oper} {o : Oper} {a : Act} {Q : Exit → Act → World → Prop} (hg : o.guard = none) (l c : Operand) (hop : o.op = Op.makeSlice 24 l c)
    (n : Nat) (L C : Int) (hl : a.eval l = .int .i64 L) (hc : a.eval c = .int .i64 C) (hL : L = (n : Int)) (hC : C = (n : Int)) (hn : n ≤ 1000000)
    (hK : ∀ w', OwnBytes w.heap.size w' (.slice (some ⟨w.heap.size, 0, none⟩) n n) (List.replicate n 0) → Below w.heap.size w w' → wpList Try.prog ops Q rest (a.put o.dst (.slice (some ⟨w.heap.size, 0, none⟩) n n)) w') : wpList Try.prog ops Q (o :: rest) a w := by
  obtain ⟨i0, hi, hz0, hz1, hz2⟩ := info_parts info_byte
  refine wpList_make_full w hg l c 24 hop w.heap.size 5 i0 (.int .u8 0) 1 Try.underlying24 hi hz0 hz1 .i64 .i64 L C n hl hc hL hC (by rw [hz2]; omega) (by unfold maxLen; omega) (Nat.le_refl _) ?_
  intro w' hown hgrow
  refine hK w' ?_ ⟨hgrow.os, hgrow.tape, hgrow.output, hgrow.size, fun k hk => hgrow.block k hk (by simp)⟩
  unfold OwnBytes
  rw [List.length_replicate, List.map_replicate]
  have h1 : (madeCells (Value.int .u8 0).cells (n * 1)).toList = List.replicate n (Value.int .u8 0) := by
    rw [Nat.mul_one]; exact toList_madeCells_one _ _
  rw [h1] at hown
  exact hown
theorem lit1 {s : Nat} (w : World) (hs : s ≤ w.heap.size) (x : Int) : OwnBytes s (w.alloc (.cells #[.int .u8 x] 5)) (.slice (some ⟨w.heap.size, 0, none⟩) 1 1) [x] :=
  ⟨rfl, .inr ⟨w.heap.size, 1, #[.int .u8 x], rfl, hs, heap_alloc_new w _, by simp, by simp [maxLen], by simp, by simp⟩⟩
theorem evs1_new (w : World) (k : Int) : EvsAt (w.alloc (.cells #[.int .i64 k, .int .u8 0, .int .u8 0, .slice none 0 0] 26)) (.slice (some ⟨w.heap.size, 0, none⟩) 1 1) [⟨k, 0, 0, []⟩] := by
  refine ⟨_, 1, rfl, fun _ => ⟨w.heap.size, 0, rfl, by rw [World.size_alloc]; omega, fun i e hi => ?_⟩⟩
  match i, hi with
  | 0, hi =>
    simp at hi
    subst hi
    obtain ⟨c0, c1, c2, c3⟩ := boxed4 (heap_alloc_new w (.cells #[.int .i64 k, .int .u8 0, .int .u8 0, .slice none 0 0] 26))
    exact ⟨.slice none 0 0, c0, c1, c2, c3, RowOf.nil _ _⟩
def sp5 : List Int := [7, 255, 239, 255, 239]
theorem sp5_ok : splitOk sp5 = true ∧ (runM (feedD dec0 sp5).2).n = 0 ∧ (runM (feedD dec0 sp5).2).rs = [[7], []] := by
  have h : feedD dec0 sp5 = (⟨0, 0, false, 0, [], false⟩, [⟨1, 0, 0, [7]⟩, ⟨2, 0, 0, []⟩, ⟨2, 0, 0, []⟩]) := by with_unfolding_all rfl
  unfold splitOk
  rw [h]
  exact ⟨by with_unfolding_all rfl, by with_unfolding_all rfl, by with_unfolding_all rfl⟩
theorem sp1_no : splitOk [7] = false := by
  have h : feedD dec0 [7] = (⟨0, 0, false, 0, [], false⟩, [⟨1, 0, 0, [7]⟩]) := by with_unfolding_all rfl
  unfold splitOk
  rw [h]
  with_unfolding_all rfl
theorem call_sp5 (v : Value) (w : World) (h : RowOf .u8 w v sp5) : Calls Try.prog 56 #[v] w fun e w' => ∃ u x y, e = .returned (.tuple #[u, .int .i64 0, .int .i64 0]) ∧ RowsOwn w.heap.size w' u [([7], x), ([], y)] ∧ Below w.heap.size w w' := by
  refine (split_any v sp5 w h (by simp [sp5])).mono fun e w' hp => ?_
  obtain ⟨hb, hp⟩ := hp
  rw [if_pos sp5_ok.1, sp5_ok.2.1, sp5_ok.2.2] at hp
  obtain ⟨u, R, he, hR, hRm⟩ := hp
  match R, hRm with
  | [(a, x), (b, y)], hRm =>
    simp at hRm
    obtain ⟨rfl, rfl⟩ := hRm
    exact ⟨u, x, y, he, hR, hb⟩
theorem call_sp1 (v : Value) (w : World) (h : RowOf .u8 w v [7]) : Calls Try.prog 56 #[v] w fun e w' => e = .returned (.tuple #[.slice none 0 0, .int .i64 0, .int .i64 20]) ∧ Below w.heap.size w w' := by
  refine (split_any v [7] w h (by simp)).mono fun e w' hp => ?_
  obtain ⟨hb, hp⟩ := hp
  rw [if_neg (by rw [sp1_no]; simp)] at hp
  exact ⟨hp, hb⟩
theorem call_all1 (v : Value) (w : World) (h : EvsAt w v [⟨2, 0, 0, []⟩]) : Calls Try.prog 61 #[v] w fun e w' => ∃ u x, e = .returned (.tuple #[u, .int .i64 0]) ∧ RowsOwn w.heap.size w' u [([], x)] ∧ Below w.heap.size w w' := by
  refine (all_any v _ w h (by simp) (by simp)).mono fun e w' hp => ?_
  obtain ⟨u, R, he, hR, hRm, hb⟩ := hp
  match R, hRm with
  | [(a, x)], hRm =>
    have ha : a = [] := by simpa [runM, stepM] using hRm
    subst ha
    exact ⟨u, x, he, hR, hb⟩
/-- What the example keeps. -/
structure QR (s : Nat) (w : World) (p : Value) (g cap : Nat) (u0 u1 : Value) (W : World) : Prop where
  p : OwnBytes (s + 1) W p [1, 2]
  rs : RowsOwn (s + 1) W (.slice (some ⟨g, 0, none⟩) 2 cap) [([7], u0), ([], u1)]
  old : Below s w W
section
variable {s : Nat} {w W W' : World} {p u0 u1 : Value} {g cap : Nat}
theorem QR.turn (h : QR s w p g cap u0 u1 W) (t : Turn (At s) W W') : QR s w p g cap u0 u1 W' :=
  ⟨h.p.keep fun k hk hl => t.block k hl (fun e => by have : k = s := e; omega), h.rs.keep fun k hk hl => t.block k hl (fun e => by have : k = s := e; omega), h.old.trans (t.below (by
    obtain ⟨k, cp, cur, e, h1, h2, _⟩ := h.p.2.resolve_left (fun h => by have := h.2; simp at this)
    have := lt_of_block h2
    omega) fun k hk => by have : k = s := hk; omega)⟩
theorem QR.sl (h : QR s w p g cap u0 u1 W) : (convert 24 9 p).run Try.prog W = .ok (.string ⟨#[1, 2]⟩) W ∧ W.cell? ⟨g, 0, none⟩ = some u0 ∧ W.cell? ⟨g, 1, none⟩ = some u1 ∧ (convert 24 9 u0).run Try.prog W = .ok (.string ⟨#[7]⟩) W ∧ QR s w p g cap u0 u1 W := by
  have h1 : ∀ {v : Value} {L : List Int} {B : Nat} (d : Array UInt8), OwnBytes B W v L → strOfNums L = ⟨d⟩ → (convert 24 9 v).run Try.prog W = .ok (.string ⟨d⟩) W := fun d hv hd => by rw [← hd]; exact row_str hv.row
  exact ⟨h1 #[1, 2] h.p (by with_unfolding_all rfl), h.rs.row.cellAt 0 (by simp), h.rs.row.cellAt 1 (by simp), h1 #[7] (h.rs.own ([7], u0) (by simp)) (by with_unfolding_all rfl), h⟩
end
theorem mine_old {s : Nat} {w W W' : World} (h : Below s w W) (hs : s < W.heap.size) (t : Turn (Mine W s) W W') : Below s w W' :=
  h.trans (t.below (by omega) fun k hk => by rcases hk with rfl | hk; exact Nat.le_refl _; omega)
theorem own_mine {s : Nat} {W W' : World} {p : Value} {L : List Int} (h : OwnBytes (s + 1) W p L) (t : Turn (Mine W s) W W') : OwnBytes (s + 1) W' p L :=
  h.keep fun k hk hl => t.block k hl fun e => by
    rcases e with rfl | e
    · omega
    · omega
theorem own_lit5 (w : World) (a b c d e : Int) : OwnBytes w.heap.size (w.alloc (.cells #[.int .u8 a, .int .u8 b, .int .u8 c, .int .u8 d, .int .u8 e] 5)) (.slice (some ⟨w.heap.size, 0, none⟩) 5 5) [a, b, c, d, e] :=
  ⟨rfl, .inr ⟨w.heap.size, 5, #[.int .u8 a, .int .u8 b, .int .u8 c, .int .u8 d, .int .u8 e], rfl, Nat.le_refl _, heap_alloc_new w _, by simp, by simp [maxLen], by simp, by simp⟩⟩
set_option maxRecDepth 100000 in
set_option maxHeartbeats 4000000 in
theorem rec_alive (w : World) : Calls Try.prog 55 #[] w fun e w' => e = .returned (.bool true) ∧ Below w.heap.size w w' := by
  have hzm := (zero_of_info info_mk).1
  obtain ⟨s, hs⟩ : ∃ s, s = w.heap.size := ⟨_, rfl⟩
  have hm := mak_new w
  have hbm := below_alloc w (.cells zmk 134)
  obtain ⟨W0, hW0⟩ : ∃ W0, W0 = w.alloc (.cells zmk 134) := ⟨_, rfl⟩
  rw [← hW0, ← hs] at hm
  rw [← hW0, ← hs] at hbm
  rw [← hs]
  have HS := Lib.hid hs.symm
  have HM0 := Lib.hid hm
  have HB0 := Lib.hid hbm
  have HW0 := Lib.hid hW0.symm
  clear hs hm hbm hW0
  go_enter Try.func55, Try.ntmps55
  go_upto_region 2 with fail
  rw [HW0.out, HS.out]
  go_wp2_with fail
  have hm1 := HM0.out.below (below_alloc W0 (.cells #[.int .u8 1] 5))
  have hb1 := HB0.out.trans ((below_alloc W0 (.cells #[.int .u8 1] 5)).mono (by have := HM0.out.lt; omega))
  refine (take_data 0 0 _ [1] hm1 (lit1 W0 (Nat.le_refl _) 1).row (by simp)).mono ?_
  rintro e W1 ⟨rfl, hm2, ht2⟩
  have HM1 : Hid (MakAt W1 s [1] false) := Lib.hid hm2
  have HB1 := Lib.hid (mine_old hb1 hm1.lt ht2)
  clear hm1 hb1 hm2 ht2
  go_wp2_with fail
  have hm1 := HM1.out.below (below_alloc W1 (.cells #[.int .u8 2] 5))
  have hb1 := HB1.out.trans ((below_alloc W1 (.cells #[.int .u8 2] 5)).mono (by have := HM1.out.lt; omega))
  refine (take_data 0 0 _ [2] hm1 (lit1 W1 (Nat.le_refl _) 2).row (by simp)).mono ?_
  rintro e W2 ⟨rfl, hm2, ht2⟩
  have HM2 : Hid (MakAt W2 s [1, 2] false) := Lib.hid hm2
  have HB2 := Lib.hid (mine_old hb1 hm1.lt ht2)
  clear hm1 hb1 hm2 ht2
  go_wp2_with fail
  refine (show Calls Try.prog 92 #[.pointer (some ⟨s, 0, none⟩)] W2 fun e w' => e = .returned (.int .i64 2) ∧ W2 = w' from len_any HM2.out).mono ?_
  rintro e W' ⟨rfl, rfl⟩
  go_wp2_with fail
  refine (take_end 0 0 _ HM2.out).mono ?_
  rintro e W3 ⟨hp, hm2, ht2⟩
  rw [if_neg (by simp)] at hp
  obtain ⟨p, rfl, hp⟩ := hp
  have HM3 := Lib.hid hm2
  have HB3 := Lib.hid (mine_old HB2.out HM2.out.lt ht2)
  have HP3 := Lib.hid (hp.lower (show s + 1 ≤ W2.heap.size from HM2.out.lt))
  clear hm2 ht2 hp
  go_upto_region 6 with fail
  obtain ⟨X, hX⟩ : ∃ X : List Int, X = List.replicate 8193 0 := ⟨_, rfl⟩
  have hXl : X.length = 8193 := by rw [hX, List.length_replicate]
  have HX := Lib.hid hX.symm
  have HXL := Lib.hid hXl
  clear hX hXl
  go_wp2_with (at_make; refine make_bytes rfl _ _ rfl 8193 8193 8193 rfl rfl (by rfl) (by rfl) (by omega) ?_; intro W4 hown hold; have HO4 := Lib.hid hown; have HB4 := Lib.hid hold; clear hown hold)
  have hm1 := HM3.out.below HB4.out
  have hb1 := HB3.out.trans (HB4.out.mono (by have := HM3.out.lt; omega))
  have ho4 := HO4.out.row
  rw [HX.out] at ho4
  refine (take_data 0 0 _ X hm1 ho4 (by rw [HXL.out]; omega)).mono ?_
  rintro e W5 ⟨rfl, hm2, ht2⟩
  obtain ⟨B8, hB8⟩ : ∃ B8, B8 = [] ++ X.take (8192 - ([] : List Int).length) := ⟨_, rfl⟩
  have hB8l : B8.length = 8192 := by rw [hB8, List.nil_append, List.length_take, HXL.out]; rfl
  rw [← hB8, HXL.out] at hm2
  have HM5 : Hid (MakAt W5 s B8 true) := Lib.hid hm2
  have HB5 := Lib.hid (mine_old hb1 hm1.lt ht2)
  have HBL := Lib.hid hB8l
  have HP5 := Lib.hid (own_mine (HP3.out.below HB4.out) ht2)
  clear hm1 hb1 hm2 ht2 ho4 hB8 hB8l
  go_wp2_with fail
  refine (show Calls Try.prog 93 #[.pointer (some ⟨s, 0, none⟩)] W5 fun e w' => e = .returned (.bool true) ∧ W5 = w' from long_any HM5.out).mono ?_
  rintro e W' ⟨rfl, rfl⟩
  go_wp2_with fail
  refine (show Calls Try.prog 92 #[.pointer (some ⟨s, 0, none⟩)] W5 fun e w' => e = .returned (.int .i64 8192) ∧ W5 = w' from by have := len_any HM5.out; rw [HBL.out] at this; exact this).mono ?_
  rintro e W' ⟨rfl, rfl⟩
  go_wp2_with fail
  refine (take_end 0 0 _ HM5.out).mono ?_
  rintro e W6 ⟨hp, hm2, ht2⟩
  rw [if_pos rfl] at hp
  subst hp
  have HM6 := Lib.hid hm2
  have HB6 := Lib.hid (mine_old HB5.out HM5.out.lt ht2)
  have HP6 := Lib.hid (own_mine HP5.out ht2)
  clear hm2 ht2
  go_wp2_with fail
  have hm1 := HM6.out.below (below_alloc W6 (.cells #[.int .u8 5] 5))
  have hb1 := HB6.out.trans ((below_alloc W6 (.cells #[.int .u8 5] 5)).mono (by have := HM6.out.lt; omega))
  refine (take_data 0 0 _ [5] hm1 (lit1 W6 (Nat.le_refl _) 5).row (by simp)).mono ?_
  rintro e W7 ⟨rfl, hm2, ht2⟩
  have HM7 : Hid (MakAt W7 s [5] false) := Lib.hid hm2
  have HB7 := Lib.hid (mine_old hb1 hm1.lt ht2)
  have HP7 := Lib.hid (own_mine (HP6.out.below (below_alloc W6 (.cells #[.int .u8 5] 5))) ht2)
  clear hm1 hb1 hm2 ht2
  go_wp2_with fail
  refine (call_sp5 _ _ (own_lit5 W7 7 255 239 255 239).row).mono ?_
  rintro e W9 ⟨u, u0, u1, rfl, hr, hb9⟩
  have hb9' := (below_alloc W7 (.cells #[.int .u8 7, .int .u8 255, .int .u8 239, .int .u8 255, .int .u8 239] 5)).trans (hb9.mono (by rw [World.size_alloc]; omega))
  have HM9 := Lib.hid (HM7.out.below hb9')
  have HB9 := Lib.hid (HB7.out.trans (hb9'.mono (by have := HM7.out.lt; omega)))
  have HP9 := Lib.hid (HP7.out.below hb9')
  have hr9 := hr.lower (show s + 1 ≤ _ by rw [World.size_alloc]; have := HM7.out.lt; omega)
  obtain ⟨g, cap, rfl⟩ : ∃ g cap, u = .slice (some ⟨g, 0, none⟩) 2 cap := by
    rcases hr9.row.2 with ⟨_, h0⟩ | ⟨g, cap, cur, rfl, _⟩
    · simp at h0
    · exact ⟨g, cap, rfl⟩
  have hu0 : ∃ a0 n0, u0 = .slice a0 1 n0 := (hr9.own ([7], u0) (by simp)).slice
  have hu1 : ∃ a1 n1, u1 = .slice a1 0 n1 := (hr9.own ([], u1) (by simp)).slice
  clear hr
  obtain ⟨a0, n0, hu0⟩ := hu0
  obtain ⟨a1, n1, hu1⟩ := hu1
  rw [hu0, hu1] at hr9
  have HR9 := Lib.hid hr9
  clear hb9 hb9' hr9 hu0 hu1
  go_wp2_with fail
  refine (call_sp1 _ _ (lit1 W9 (Nat.le_refl _) 7).row).mono ?_
  rintro e W11 ⟨rfl, hb11⟩
  have hb11' := (below_alloc W9 (.cells #[.int .u8 7] 5)).trans (hb11.mono (by rw [World.size_alloc]; omega))
  have HM11 := Lib.hid (HM9.out.below hb11')
  have HB11 := Lib.hid (HB9.out.trans (hb11'.mono (by have := HM9.out.lt; omega)))
  have HP11 := Lib.hid (HP9.out.below hb11')
  have HR11 := Lib.hid (HR9.out.below hb11')
  clear hb11 hb11'
  go_wp2_with fail
  refine (call_all1 _ _ (evs1_new W11 2)).mono ?_
  rintro e W13 ⟨z, z0, rfl, hz, hb13⟩
  have hb13' := (below_alloc W11 (.cells #[.int .i64 2, .int .u8 0, .int .u8 0, .slice none 0 0] 26)).trans (hb13.mono (by rw [World.size_alloc]; omega))
  obtain ⟨za, zc, rfl⟩ := hz.form
  have HM13 : Hid (MakAt W13 s [5] false) := Lib.hid (HM11.out.below hb13')
  have HQ13 : Hid (QR s w p g cap (.slice a0 1 n0) (.slice a1 0 n1) W13) := Lib.hid ⟨HP11.out.below hb13', HR11.out.below hb13', HB11.out.trans (hb13'.mono (by have := HM11.out.lt; omega))⟩
  simp only [List.length_cons, List.length_nil, Nat.zero_add]
  clear hz hb13 hb13'
  go_upto_region 13 with fail
  simp only [List.append_eq, List.cons_append, List.nil_append]
  obtain ⟨s1, _⟩ := HQ13.out.sl
  go_wp2_with fail
  refine (show Calls Try.prog 94 #[.pointer (some ⟨s, 0, none⟩)] W13 fun e w' => e = .returned (.int .i64 1) ∧ MakAt w' s [] false ∧ Turn (At s) W13 w' from drop_any HM13.out).mono ?_
  rintro e W14 ⟨rfl, hm14, ht14⟩
  have HM14 := Lib.hid hm14
  have HQ14 := Lib.hid (HQ13.out.turn ht14)
  clear hm14 ht14 s1
  go_wp2_with fail
  refine (show Calls Try.prog 92 #[.pointer (some ⟨s, 0, none⟩)] W14 fun e w' => e = .returned (.int .i64 0) ∧ W14 = w' from len_any HM14.out).mono ?_
  rintro e W' ⟨rfl, rfl⟩
  obtain ⟨_, c0, c1, s2, _⟩ := HQ14.out.sl
  go_wp2_with fail
  go_ret
  exact ⟨rfl, HQ14.out.old⟩
end Go.Proofs.Ytimidoaafllnkaa.Rec
