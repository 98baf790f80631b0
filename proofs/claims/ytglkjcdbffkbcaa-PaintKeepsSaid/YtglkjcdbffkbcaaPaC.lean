/-
  The brush: what each order does that asks for no places.
-/
import Derived.Test.YtglkjcdbffkbcaaPaB
import Derived.StillTailTactics
namespace Go.Proofs.Ytglkjcdbffkbcaa.Pl
open Go.RowKit Go.Shelf Base
set_option linter.unusedVariables false
set_option linter.unusedSimpArgs false

abbrev OV (o : Or) (vp vd : Value) : Array Value := #[.int .u8 o.kind, .int .i64 o.addr, .int .u8 o.byte, .bool o.ge, vp, vd]
/-- Behind an order: the error, the brush. -/
def OQ (W : World) (s b g : Nat) (r c : Int) (R : Bs × Int) (e : Ending) (W' : World) : Prop := e = .returned (.int .i64 R.2) ∧ BrAt W' s b g r c R.1 ∧ Turn (BrS s b g) W W'
theorem PrAt.below {w w' : World} {v : Value} {ps : List (Int × Int)} (h : PrAt w v ps) (t : Below w.heap.size w w') : PrAt w' v ps :=
  h.kept fun b o x hx => (t.cell (p := ⟨b, o, none⟩) (World.block_lt_of_cell? w ⟨b, o, none⟩ hx)).trans hx
theorem PrAt.drew {w : World} {v : Value} {ps : List (Int × Int)} (h : PrAt w v ps) : PrAt w.drew v ps := h
/-- The brush beside an order's box. -/
structure BoQ (W0 : World) (s b g : Nat) (r c : Int) (B : Bs) (o : Or) (vp vd : Value) (W : World) : Prop where
  br : BrAt W s b g r c B
  ob : W.heap[W0.heap.size]? = some (.cells #[.int .u8 o.kind, .int .i64 o.addr, .int .u8 o.byte, .bool o.ge, vp, vd] 73 (0, 0))
  tn : Turn (BrS s b g) W0 W
  ls : s < W0.heap.size
  lb : b < W0.heap.size
  lg : g < W0.heap.size
section
variable {W0 W W' : World} {s b g : Nat} {r c : Int} {B B' : Bs} {o : Or} {vp vd : Value}
theorem BoQ.begin (h : BrAt W0 s b g r c B) (o : Or) (vp vd : Value) : BoQ W0 s b g r c B o vp vd (W0.alloc (.cells #[.int .u8 o.kind, .int .i64 o.addr, .int .u8 o.byte, .bool o.ge, vp, vd] 73)) :=
  ⟨h.below (below_alloc _ _), heap_alloc_new _ _, Turn.of_below (below_alloc _ _), h.lt, h.pl.lt, h.pl.ltg⟩
theorem BoQ.below (h : BoQ W0 s b g r c B o vp vd W) (t : Below W.heap.size W W') : BoQ W0 s b g r c B o vp vd W' :=
  ⟨h.br.below t, (t.block _ (lt_of_block h.ob)).trans h.ob, h.tn.trans (Turn.of_below t), h.ls, h.lb, h.lg⟩
theorem BoQ.drew (h : BoQ W0 s b g r c B o vp vd W) : BoQ W0 s b g r c B o vp vd W.drew := ⟨h.br.drew, h.ob, h.tn.drew, h.ls, h.lb, h.lg⟩
theorem BoQ.step (h : BoQ W0 s b g r c B o vp vd W) (hb : BrAt W' s b g r c B') (t : Turn (BrS s b g) W W') : BoQ W0 s b g r c B' o vp vd W' := by
  have h1 := h.ls
  have h2 := h.lb
  have h3 := h.lg
  exact ⟨hb, (t.block _ (lt_of_block h.ob) (by unfold BrS; omega)).trans h.ob, h.tn.trans t, h1, h2, h3⟩
theorem BoQ.turn (h : BoQ W0 s b g r c B o vp vd W) {M' : List Cl} (hp : PlAt W' b g r c B.cur M') (t : Turn (At g) W W') (hl : M'.length = B.M.length) : BoQ W0 s b g r c { B with M := M' } o vp vd W' :=
  h.step (h.br.turn hp t h.br.ne.2 hl) (t.mono fun k hk => .inr (.inr hk))
theorem BoQ.oc (h : BoQ W0 s b g r c B o vp vd W) : W.cell? ⟨W0.heap.size, 0, none⟩ = some (.int .u8 o.kind) ∧ W.cell? ⟨W0.heap.size, 1, none⟩ = some (.int .i64 o.addr) ∧ W.cell? ⟨W0.heap.size, 2, none⟩ = some (.int .u8 o.byte) ∧ W.cell? ⟨W0.heap.size, 3, none⟩ = some (.bool o.ge) ∧ W.cell? ⟨W0.heap.size, 4, none⟩ = some vp ∧ W.cell? ⟨W0.heap.size, 5, none⟩ = some vd :=
  ⟨by simp [World.cell?, h.ob], by simp [World.cell?, h.ob], by simp [World.cell?, h.ob], by simp [World.cell?, h.ob], by simp [World.cell?, h.ob], by simp [World.cell?, h.ob]⟩
theorem BoQ.place (h : BoQ W0 s b g r c B o vp vd W) (x : Int) (h0 : 0 ≤ x) (h1 : x < B.M.length) : BoQ W0 s b g r c { B with p := x } o vp vd (W.setCell ⟨s, 1, none⟩ (.int .i64 x)) :=
  h.step (h.br.move x h0 h1) ((turn_set W s 1 _).mono fun k hk => .inl hk)
/-- Dress, of the plane's cells. -/
theorem dress_is (x : Cl) {w : World} {v : Value} {ps : List (Int × Int)} (h : PrAt w v ps) (hl : ps.length ≤ maxLen) (hb : ∀ p ∈ ps, Byte2o p) :
    Calls Try.prog 146 #[x.val, v] w fun e w' => e = .returned (dressP x ps).val ∧ Below w.heap.size w w' := by
  have hp : Attr.PairsAt w v ps := by
    obtain ⟨a, cap, rfl, hr⟩ := h
    refine ⟨a, cap, rfl, fun hne => ?_⟩
    obtain ⟨g, off, rfl, hi⟩ := hr hne
    refine ⟨g, off, rfl, fun i hl => ?_⟩
    rw [List.getElem?_eq_getElem hl]
    exact hi i _ (List.getElem?_eq_getElem hl)
  exact Attr.dress_any (toA x) v ps w hp hl (fun p hp => by have := hb p hp; unfold Byte2o Byte at this; exact this)
theorem chr_val (B : Bs) (y : Int) (ge : Bool) : (B.chr y ge).val = .agg #[.int .u8 y, .bool ge, .bool false, .int .u8 B.look.li, .int .u8 B.look.co] := rfl
theorem dressP_val (x : Cl) (ps : List (Int × Int)) : (dressP x ps).val = .agg #[.int .u8 (dressP x ps).b, .bool (dressP x ps).ge, .bool (dressP x ps).st, .int .u8 (dressP x ps).li, .int .u8 (dressP x ps).co] := rfl
end
section
variable {W : World} {s b g : Nat} {r c : Int} {B : Bs}
set_option maxRecDepth 100000 in
set_option maxHeartbeats 2000000 in
theorem escape_any (h : BrAt W s b g r c B) (o : Or) (vp vd : Value) : Calls Try.prog 125 #[.pointer (some ⟨s, 0, none⟩), .agg (OV o vp vd)] W (OQ W s b g r c (B.lay (B.chr o.byte true), 0)) := by
  have h0 := BoQ.begin h o vp vd
  obtain ⟨W0, hW0⟩ : ∃ W0, W0 = W.alloc (.cells #[.int .u8 o.kind, .int .i64 o.addr, .int .u8 o.byte, .bool o.ge, vp, vd] 73) := ⟨_, rfl⟩
  rw [← hW0] at h0
  obtain ⟨o0, o1, o2, o3, o4, o5⟩ := h0.oc
  have H0 := Lib.hid h0
  have HW := Lib.hid hW0.symm
  clear h h0 hW0
  go_enter Try.func125, Try.ntmps125
  go_wp2_with fail
  rw [HW.out]
  go_wp2_with (first
    | (go_at_call 144; refine (sign_any H0.out.br o.byte true).mono ?_; rintro e w1 ⟨rfl, hb1⟩; rw [chr_val]; have H1 := Lib.hid (H0.out.below hb1); clear hb1)
    | (go_at_call 143; refine (lay_any H1.out.br (B.chr o.byte true)).mono ?_; rintro e w2 ⟨⟨v, rfl⟩, h2, t2⟩; have H2 := Lib.hid (H1.out.step h2 t2); clear h2 t2))
  go_ret
  exact ⟨rfl, H2.out.br, H2.out.tn⟩
set_option maxRecDepth 100000 in
set_option maxHeartbeats 2000000 in
theorem address_any (h : BrAt W s b g r c B) (o : Or) (vp vd : Value) : Calls Try.prog 126 #[.pointer (some ⟨s, 0, none⟩), .agg (OV o vp vd)] W (OQ W s b g r c (if hasL B.M o.addr then ({ B with p := o.addr }, 0) else (B, 32))) := by
  have h0 := BoQ.begin h o vp vd
  obtain ⟨W0, hW0⟩ : ∃ W0, W0 = W.alloc (.cells #[.int .u8 o.kind, .int .i64 o.addr, .int .u8 o.byte, .bool o.ge, vp, vd] 73) := ⟨_, rfl⟩
  rw [← hW0] at h0
  obtain ⟨o0, o1, o2, o3, o4, o5⟩ := h0.oc
  obtain ⟨q0, q1, q2, q3, q4, q5, q6, q7, fz⟩ := h0.br.cells
  have H0 := Lib.hid h0
  have HW := Lib.hid hW0.symm
  have hH := Lib.hid (brHas_any h0.br o.addr)
  clear h h0 hW0
  cases hc : hasL B.M o.addr with
  | true =>
    rw [hc] at hH
    have HC := Lib.hid hc
    clear hc
    go_enter Try.func126, Try.ntmps126
    go_wp2_with fail
    rw [HW.out]
    go_wp2_with (go_at_call 72; refine hH.out.mono ?_; rintro e w1 ⟨rfl, rfl⟩)
    go_ret
    have hr := HC.out
    unfold hasL at hr
    have hr2 := of_decide_eq_true hr
    have H1 := H0.out.place o.addr hr2.1 hr2.2
    exact ⟨rfl, H1.br, H1.tn⟩
  | false =>
    rw [hc] at hH
    clear hc
    go_enter Try.func126, Try.ntmps126
    go_wp2_with fail
    rw [HW.out]
    go_wp2_with (go_at_call 72; refine hH.out.mono ?_; rintro e w1 ⟨rfl, rfl⟩)
    go_ret
    exact ⟨rfl, H0.out.br, H0.out.tn⟩
set_option maxRecDepth 100000 in
set_option maxHeartbeats 2000000 in
theorem start_any (h : BrAt W s b g r c B) (o : Or) (vp vd : Value) (hy : Byte o.byte) : Calls Try.prog 129 #[.pointer (some ⟨s, 0, none⟩), .agg (OV o vp vd)] W (OQ W s b g r c (B.lay ⟨o.byte % 64, false, true, 0, 0⟩, 0)) := by
  have h0 := BoQ.begin h o vp vd
  obtain ⟨W0, hW0⟩ : ∃ W0, W0 = W.alloc (.cells #[.int .u8 o.kind, .int .i64 o.addr, .int .u8 o.byte, .bool o.ge, vp, vd] 73) := ⟨_, rfl⟩
  rw [← hW0] at h0
  obtain ⟨o0, o1, o2, o3, o4, o5⟩ := h0.oc
  have H0 := Lib.hid h0
  have HW := Lib.hid hW0.symm
  have h63 := Attr.and63u o.byte hy.1 (by have := hy.2; omega)
  clear h h0 hW0
  go_enter Try.func129, Try.ntmps129
  go_wp2_with fail
  rw [HW.out]
  go_wp2_with (go_at_call 143; refine (lay_any H0.out.br ⟨o.byte % 64, false, true, 0, 0⟩).mono ?_; rintro e w2 ⟨⟨v, rfl⟩, h2, t2⟩; have H2 := Lib.hid (H0.out.step h2 t2); clear h2 t2)
  go_ret
  exact ⟨rfl, H2.out.br, H2.out.tn⟩
set_option maxRecDepth 100000 in
set_option maxHeartbeats 2000000 in
theorem extended_any (h : BrAt W s b g r c B) (o : Or) (vp vd : Value) (hpr : PrAt W vp o.pairs) (hpl : o.pairs.length ≤ maxLen) (hpb : ∀ p ∈ o.pairs, Byte2o p) : Calls Try.prog 130 #[.pointer (some ⟨s, 0, none⟩), .agg (OV o vp vd)] W (OQ W s b g r c (B.lay (dressP cS o.pairs), 0)) := by
  have h0 := BoQ.begin h o vp vd
  have hp0 := hpr.below (below_alloc W (.cells #[.int .u8 o.kind, .int .i64 o.addr, .int .u8 o.byte, .bool o.ge, vp, vd] 73))
  obtain ⟨W0, hW0⟩ : ∃ W0, W0 = W.alloc (.cells #[.int .u8 o.kind, .int .i64 o.addr, .int .u8 o.byte, .bool o.ge, vp, vd] 73) := ⟨_, rfl⟩
  rw [← hW0] at h0 hp0
  obtain ⟨o0, o1, o2, o3, o4, o5⟩ := h0.oc
  have H0 := Lib.hid h0
  have HW := Lib.hid hW0.symm
  have HD := Lib.hid (dress_is cS hp0 hpl hpb)
  clear h h0 hW0 hpr hp0
  go_enter Try.func130, Try.ntmps130
  go_wp2_with fail
  rw [HW.out]
  go_wp2_with (first
    | (go_at_call 146; refine HD.out.mono ?_; rintro e w1 ⟨rfl, hb1⟩; rw [dressP_val]; have H1 := Lib.hid (H0.out.below hb1); clear hb1)
    | (go_at_call 143; refine (lay_any H1.out.br (dressP cS o.pairs)).mono ?_; rintro e w2 ⟨⟨v, rfl⟩, h2, t2⟩; have H2 := Lib.hid (H1.out.step h2 t2); clear h2 t2))
  go_ret
  exact ⟨rfl, H2.out.br, H2.out.tn⟩
set_option maxRecDepth 100000 in
set_option maxHeartbeats 2000000 in
theorem cursor_any' (h : BrAt W s b g r c B) (o : Or) (vp vd : Value) : Calls Try.prog 128 #[.pointer (some ⟨s, 0, none⟩), .agg (OV o vp vd)] W (OQ W s b g r c ({ B with cur := B.p }, 0)) := by
  have h0 := BoQ.begin h o vp vd
  obtain ⟨W0, hW0⟩ : ∃ W0, W0 = W.alloc (.cells #[.int .u8 o.kind, .int .i64 o.addr, .int .u8 o.byte, .bool o.ge, vp, vd] 73) := ⟨_, rfl⟩
  rw [← hW0] at h0
  obtain ⟨q0, q1, q2, q3, q4, q5, q6, q7, fz⟩ := h0.drew.br.cells
  have H0 := Lib.hid h0
  have HW := Lib.hid hW0.symm
  have hne := h0.br.ne
  have FAR := Lib.hid (fun (w2 : World) (t : Turn (At b) W0.drew w2) => show w2.cell? ⟨s, 0, none⟩ = some (.pointer (some ⟨b, 0, none⟩)) ∧ w2.cell? ⟨s, 1, none⟩ = some (.int .i64 B.p) by
    have e1 := t.block s (by have := h0.br.lt; exact this) hne.1
    exact ⟨(cell_block e1 0).trans q0, (cell_block e1 1).trans q1⟩)
  have HNE := Lib.hid hne
  clear h h0 hW0 hne q2 q3 q4 q5 q6 q7
  go_enter Try.func128, Try.ntmps128
  go_upto_region 1 with fail
  rw [HW.out]
  refine wp_region_held_drew (S := fun X => X.cell? ⟨s, 0, none⟩ = some (.pointer (some ⟨b, 0, none⟩)) ∧ X.cell? ⟨s, 1, none⟩ = some (.int .i64 B.p)) (by kernel_rfl) (⟨q0, q1⟩) (fun hHeld => ?_)
  refine wpAnyH_take (i := 0) (oi := { dst := some 5, op := Op.move (Operand.tmp 0), type := 148, pos := "paint.go:139", after := #[], guard := none }) (v := ?_) rfl (by kernel_rfl) (by kernel_rfl) (by kernel_rfl) (fun _ _ _ h => h) (Or.inl ⟨by rfl, ?_⟩) (by assumption) ?_
  rotate_left
  focus (intro w hSw; (try dsimp only at hSw); go_simp; try (with_reducible rfl))
  try simp only [Act.put, List.setIfInBounds_toArray, List.set_cons_zero, List.set_cons_succ]
  refine wpAnyH_take (i := 1) (oi := { dst := some 6, op := Op.nilCheck (Operand.tmp 5), type := 0, pos := "paint.go:139", after := #[{ on := 0, ground := Ground.data }], guard := none }) (v := ?_) rfl (by kernel_rfl) (by kernel_rfl) (by kernel_rfl) (fun _ _ _ h => h) (Or.inl ⟨by rfl, ?_⟩) (by assumption) ?_
  rotate_left
  focus (intro w hSw; (try dsimp only at hSw); go_simp; try (with_reducible rfl))
  try simp only [Act.put, List.setIfInBounds_toArray, List.set_cons_zero, List.set_cons_succ]
  refine wpAnyH_take (i := 2) (oi := { dst := some 7, op := Op.fieldAddr 117 (Operand.tmp 6) 0, type := 0, pos := "paint.go:139", after := #[{ on := 1, ground := Ground.data }], guard := none }) (v := ?_) rfl (by kernel_rfl) (by kernel_rfl) (by kernel_rfl) (fun _ _ _ h => h) (Or.inl ⟨by rfl, ?_⟩) (by assumption) ?_
  rotate_left
  focus (intro w hSw; (try dsimp only at hSw); go_simp; try (with_reducible rfl))
  try simp only [Act.put, List.setIfInBounds_toArray, List.set_cons_zero, List.set_cons_succ]
  refine wpAnyH_take (i := 3) (oi := { dst := some 8, op := Op.load 26 (Operand.tmp 7), type := 26, pos := "paint.go:139", after := #[{ on := 2, ground := Ground.data }], guard := none }) (v := ?_) rfl (by kernel_rfl) (by kernel_rfl) (by kernel_rfl) (fun _ _ _ h => h) (Or.inl ⟨by rfl, ?_⟩) (by assumption) ?_
  rotate_left
  focus (intro w hSw; (try dsimp only at hSw); go_simp; try (with_reducible rfl))
  try simp only [Act.put, List.setIfInBounds_toArray, List.set_cons_zero, List.set_cons_succ]
  refine wpAnyH_take (i := 4) (oi := { dst := some 9, op := Op.move (Operand.tmp 0), type := 148, pos := "paint.go:139", after := #[], guard := none }) (v := ?_) rfl (by kernel_rfl) (by kernel_rfl) (by kernel_rfl) (fun _ _ _ h => h) (Or.inl ⟨by rfl, ?_⟩) (by assumption) ?_
  rotate_left
  focus (intro w hSw; (try dsimp only at hSw); go_simp; try (with_reducible rfl))
  try simp only [Act.put, List.setIfInBounds_toArray, List.set_cons_zero, List.set_cons_succ]
  refine wpAnyH_take (i := 5) (oi := { dst := some 10, op := Op.nilCheck (Operand.tmp 9), type := 0, pos := "paint.go:139", after := #[{ on := 4, ground := Ground.data }], guard := none }) (v := ?_) rfl (by kernel_rfl) (by kernel_rfl) (by kernel_rfl) (fun _ _ _ h => h) (Or.inl ⟨by rfl, ?_⟩) (by assumption) ?_
  rotate_left
  focus (intro w hSw; (try dsimp only at hSw); go_simp; try (with_reducible rfl))
  try simp only [Act.put, List.setIfInBounds_toArray, List.set_cons_zero, List.set_cons_succ]
  refine wpAnyH_take (i := 6) (oi := { dst := some 11, op := Op.fieldAddr 117 (Operand.tmp 10) 1, type := 0, pos := "paint.go:139", after := #[{ on := 5, ground := Ground.data }], guard := none }) (v := ?_) rfl (by kernel_rfl) (by kernel_rfl) (by kernel_rfl) (fun _ _ _ h => h) (Or.inl ⟨by rfl, ?_⟩) (by assumption) ?_
  rotate_left
  focus (intro w hSw; (try dsimp only at hSw); go_simp; try (with_reducible rfl))
  try simp only [Act.put, List.setIfInBounds_toArray, List.set_cons_zero, List.set_cons_succ]
  refine wpAnyH_take (i := 7) (oi := { dst := some 12, op := Op.load 3 (Operand.tmp 11), type := 3, pos := "paint.go:139", after := #[{ on := 6, ground := Ground.data }], guard := none }) (v := ?_) rfl (by kernel_rfl) (by kernel_rfl) (by kernel_rfl) (fun _ _ _ h => h) (Or.inl ⟨by rfl, ?_⟩) (by assumption) ?_
  rotate_left
  focus (intro w hSw; (try dsimp only at hSw); go_simp; try (with_reducible rfl))
  try simp only [Act.put, List.setIfInBounds_toArray, List.set_cons_zero, List.set_cons_succ]
  refine wpAnyH_ready (rs := [8]) (by kernel_rfl) (by simp) (AllReadyH.cons (o := { dst := some 13, op := Op.call { callee := Callee.value (Operand.func 81), args := #[Operand.tmp 8, Operand.tmp 12], argTypes := #[26, 3] }, type := 4, pos := "paint.go:139", after := #[{ on := 3, ground := Ground.data }, { on := 7, ground := Ground.data }], guard := none }) rfl (fun K hK => ?_) AllReadyH.nil)
  go_simp
  go_at_call 81
  refine (point_any H0.out.br.pl.drew B.p).mono ?_
  rintro e w2 ⟨rfl, hp, ht⟩
  obtain ⟨q0', q1'⟩ := FAR.out _ ht
  go_wp2_with fail
  refine hK.out _ _ (⟨q0', q1'⟩) (fun hHeld => ?_)
  clear hK K
  try simp only [Act.put, List.setIfInBounds_toArray, List.set_cons_zero, List.set_cons_succ]
  refine wpAnyH_done (by kernel_rfl) ?_ _
  have hh : hasL B.M B.p = true := by unfold hasL; have h1 := H0.out.br.p0; have h2 := H0.out.br.p1; simp [h1, h2]
  rw [if_pos hh] at hp
  have H2 := Lib.hid (H0.out.drew.step (H0.out.br.drew.turn hp ht HNE.out.1 rfl) (ht.mono fun k hk => .inr (.inl hk)))
  clear hp ht hh
  go_wp2_with fail
  go_ret
  exact ⟨rfl, H2.out.br, H2.out.tn⟩
theorem look_set {B : Bs} (h : BrAt W s b g r c B) (x : Cl) : BrAt (((((W.setCell ⟨s, 2, none⟩ (.int .u8 x.b)).setCell ⟨s, 3, none⟩ (.bool x.ge)).setCell ⟨s, 4, none⟩ (.bool x.st)).setCell ⟨s, 5, none⟩ (.int .u8 x.li)).setCell ⟨s, 6, none⟩ (.int .u8 x.co)) s b g r c { B with look := x } := by
  obtain ⟨n1, n2⟩ := h.ne
  have ht := turn5 W s 2 3 4 5 6 (.int .u8 x.b) (.bool x.ge) (.bool x.st) (.int .u8 x.li) (.int .u8 x.co)
  exact ⟨h.pl.turn ht (fun e => n1 e.symm) (fun e => n2 e.symm), by rw [heap_set (heap_set (heap_set (heap_set (heap_set h.bx 2 _) 3 _) 4 _) 5 _) 6 _]; simp, h.p0, h.p1⟩
theorem look_setD {B : Bs} (h : BrAt W s b g r c B) (x : Cl) : BrAt (((((W.setCell ⟨s, 2, none⟩ (.int .u8 x.b)).setCell ⟨s, 3, none⟩ (.bool x.ge)).setCell ⟨s, 4, none⟩ (.bool x.st)).setCell ⟨s, 5, none⟩ (.int .u8 x.li)).setCell ⟨s, 6, none⟩ (.int .u8 x.co)).drew s b g r c { B with look := x } := (look_set h x).drew
set_option maxRecDepth 100000 in
set_option maxHeartbeats 4000000 in
theorem dress_any' (h : BrAt W s b g r c B) (o : Or) (vp vd : Value) (hpr : PrAt W vp o.pairs) (hpl : o.pairs.length ≤ maxLen) (hpb : ∀ p ∈ o.pairs, Byte2o p) : Calls Try.prog 131 #[.pointer (some ⟨s, 0, none⟩), .agg (OV o vp vd)] W (OQ W s b g r c ({ B with look := dressP B.look o.pairs }, 0)) := by
  have h0 := BoQ.begin h o vp vd
  have hp0 := hpr.below (below_alloc W (.cells #[.int .u8 o.kind, .int .i64 o.addr, .int .u8 o.byte, .bool o.ge, vp, vd] 73))
  obtain ⟨W0, hW0⟩ : ∃ W0, W0 = W.alloc (.cells #[.int .u8 o.kind, .int .i64 o.addr, .int .u8 o.byte, .bool o.ge, vp, vd] 73) := ⟨_, rfl⟩
  rw [← hW0] at h0 hp0
  obtain ⟨o0, o1, o2, o3, o4, o5⟩ := h0.drew.oc
  obtain ⟨q0, q1, q2, q3, q4, q5, q6, q7, fz⟩ := h0.drew.br.cells
  have H0 := Lib.hid h0
  have HW := Lib.hid hW0.symm
  have HD := Lib.hid (dress_is B.look hp0.drew hpl hpb)
  obtain ⟨x, hx⟩ : ∃ x, x = dressP B.look o.pairs := ⟨_, rfl⟩
  rw [← hx] at HD ⊢
  clear h h0 hW0 hpr hp0 hx
  go_enter Try.func131, Try.ntmps131
  go_upto_region 1 with fail
  rw [HW.out]
  refine wp_region_held_drew (S := fun _ => True) (by kernel_rfl) trivial (fun hHeld => ?_)
  refine wpAnyH_take (i := 0) (oi := { dst := some 5, op := Op.move (Operand.tmp 0), type := 148, pos := "paint.go:125", after := #[], guard := none }) (v := ?_) rfl (by kernel_rfl) (by kernel_rfl) (by kernel_rfl) (fun _ _ _ h => h) (Or.inl ⟨by rfl, ?_⟩) (by assumption) ?_
  rotate_left
  focus (intro w hSw; (try dsimp only at hSw); go_simp; try (with_reducible rfl))
  try simp only [Act.put, List.setIfInBounds_toArray, List.set_cons_zero, List.set_cons_succ]
  refine wpAnyH_take (i := 1) (oi := { dst := some 6, op := Op.move (Operand.tmp 0), type := 148, pos := "paint.go:125", after := #[], guard := none }) (v := ?_) rfl (by kernel_rfl) (by kernel_rfl) (by kernel_rfl) (fun _ _ _ h => h) (Or.inl ⟨by rfl, ?_⟩) (by assumption) ?_
  rotate_left
  focus (intro w hSw; (try dsimp only at hSw); go_simp; try (with_reducible rfl))
  try simp only [Act.put, List.setIfInBounds_toArray, List.set_cons_zero, List.set_cons_succ]
  refine wpAnyH_take (i := 2) (oi := { dst := some 7, op := Op.nilCheck (Operand.tmp 6), type := 0, pos := "paint.go:125", after := #[{ on := 1, ground := Ground.data }], guard := none }) (v := ?_) rfl (by kernel_rfl) (by kernel_rfl) (by kernel_rfl) (fun _ _ _ h => h) (Or.inl ⟨by rfl, ?_⟩) (by assumption) ?_
  rotate_left
  focus (intro w hSw; (try dsimp only at hSw); go_simp; try (with_reducible rfl))
  try simp only [Act.put, List.setIfInBounds_toArray, List.set_cons_zero, List.set_cons_succ]
  refine wpAnyH_take (i := 3) (oi := { dst := some 8, op := Op.fieldAddr 117 (Operand.tmp 7) 2, type := 0, pos := "paint.go:125", after := #[{ on := 2, ground := Ground.data }], guard := none }) (v := ?_) rfl (by kernel_rfl) (by kernel_rfl) (by kernel_rfl) (fun _ _ _ h => h) (Or.inl ⟨by rfl, ?_⟩) (by assumption) ?_
  rotate_left
  focus (intro w hSw; (try dsimp only at hSw); go_simp; try (with_reducible rfl))
  try simp only [Act.put, List.setIfInBounds_toArray, List.set_cons_zero, List.set_cons_succ]
  refine wpAnyH_take (i := 5) (oi := { dst := some 10, op := Op.fieldAddr 73 (Operand.tmp 3) 4, type := 0, pos := "paint.go:125", after := #[], guard := none }) (v := ?_) rfl (by kernel_rfl) (by kernel_rfl) (by kernel_rfl) (fun _ _ _ h => h) (Or.inl ⟨by rfl, ?_⟩) (by assumption) ?_
  rotate_left
  focus (intro w hSw; (try dsimp only at hSw); go_simp; try (with_reducible rfl))
  try simp only [Act.put, List.setIfInBounds_toArray, List.set_cons_zero, List.set_cons_succ]
  refine wpAnyH_ready (rs := [4, 6]) (by kernel_rfl) (by simp) (AllReadyH.cons (o := { dst := some 9, op := Op.load 45 (Operand.tmp 8), type := 45, pos := "paint.go:125", after := #[{ on := 3, ground := Ground.data }], guard := none }) rfl (fun K hK => ?_) (AllReadyH.cons (o := { dst := some 11, op := Op.load 71 (Operand.tmp 10), type := 71, pos := "paint.go:125", after := #[{ on := 5, ground := Ground.data }], guard := none }) rfl (fun K hK => ?_) AllReadyH.nil))
  · go_simp
    (try go_wp2_with fail)
    refine hK.out _ _ trivial (fun hHeld => ?_)
    clear hK K
    try simp only [Act.put, List.setIfInBounds_toArray, List.set_cons_zero, List.set_cons_succ]
    refine wpAnyH_ready (rs := [6]) (by kernel_rfl) (by simp) (AllReadyH.cons (o := { dst := some 11, op := Op.load 71 (Operand.tmp 10), type := 71, pos := "paint.go:125", after := #[{ on := 5, ground := Ground.data }], guard := none }) rfl (fun K hK => ?_) AllReadyH.nil)
    go_simp
    (try go_wp2_with fail)
    refine hK.out _ _ trivial (fun hHeld => ?_)
    clear hK K
    try simp only [Act.put, List.setIfInBounds_toArray, List.set_cons_zero, List.set_cons_succ]
    refine wpAnyH_ready (rs := [7]) (by kernel_rfl) (by simp) (AllReadyH.cons (o := { dst := some 12, op := Op.call { callee := Callee.value (Operand.func 146), args := #[Operand.tmp 9, Operand.tmp 11], argTypes := #[45, 71] }, type := 45, pos := "paint.go:125", after := #[{ on := 4, ground := Ground.data }, { on := 6, ground := Ground.data }], guard := none }) rfl (fun K hK => ?_) AllReadyH.nil)
    go_simp
    go_at_call 146
    refine HD.out.mono ?_
    rintro e w2 ⟨rfl, hb2⟩
    have H2 := Lib.hid (H0.out.drew.below hb2)
    obtain ⟨p0, p1, p2, p3, p4, p5, p6, p7, pf⟩ := H2.out.br.cells
    clear hb2 q0 q1 q2 q3 q4 q5 q6 q7 o0 o1 o2 o3 o4 o5 fz
    go_wp2_with fail
    refine hK.out _ _ trivial (fun hHeld => ?_)
    clear hK K
    try simp only [Act.put, List.setIfInBounds_toArray, List.set_cons_zero, List.set_cons_succ]
    refine wpAnyH_take (i := 8) (oi := { dst := some 13, op := Op.nilCheck (Operand.tmp 5), type := 0, pos := "paint.go:125", after := #[{ on := 0, ground := Ground.data }, { on := 0, ground := Ground.phase }, { on := 1, ground := Ground.phase }, { on := 2, ground := Ground.phase }, { on := 3, ground := Ground.phase }, { on := 4, ground := Ground.phase }, { on := 5, ground := Ground.phase }, { on := 6, ground := Ground.phase }, { on := 7, ground := Ground.phase }], guard := none }) (v := ?_) rfl (by kernel_rfl) (by kernel_rfl) (by kernel_rfl) (fun _ _ _ h => h) (Or.inl ⟨by rfl, ?_⟩) (by assumption) ?_
    rotate_left
    focus (intro w hSw; (try dsimp only at hSw); go_simp; try (with_reducible rfl))
    try simp only [Act.put, List.setIfInBounds_toArray, List.set_cons_zero, List.set_cons_succ]
    refine wpAnyH_take (i := 9) (oi := { dst := some 14, op := Op.fieldAddr 117 (Operand.tmp 13) 2, type := 0, pos := "paint.go:125", after := #[{ on := 8, ground := Ground.data }, { on := 0, ground := Ground.phase }, { on := 1, ground := Ground.phase }, { on := 2, ground := Ground.phase }, { on := 3, ground := Ground.phase }, { on := 4, ground := Ground.phase }, { on := 5, ground := Ground.phase }, { on := 6, ground := Ground.phase }, { on := 7, ground := Ground.phase }], guard := none }) (v := ?_) rfl (by kernel_rfl) (by kernel_rfl) (by kernel_rfl) (fun _ _ _ h => h) (Or.inl ⟨by rfl, ?_⟩) (by assumption) ?_
    rotate_left
    focus (intro w hSw; (try dsimp only at hSw); go_simp; try (with_reducible rfl))
    try simp only [Act.put, List.setIfInBounds_toArray, List.set_cons_zero, List.set_cons_succ]
    refine wpAnyH_ready (rs := [10]) (by kernel_rfl) (by simp) (AllReadyH.cons (o := { dst := none, op := Op.store 45 (Operand.tmp 14) (Operand.tmp 12), type := 0, pos := "paint.go:125", after := #[{ on := 9, ground := Ground.data }, { on := 7, ground := Ground.data }, { on := 7, ground := Ground.chain }, { on := 0, ground := Ground.phase }, { on := 1, ground := Ground.phase }, { on := 2, ground := Ground.phase }, { on := 3, ground := Ground.phase }, { on := 4, ground := Ground.phase }, { on := 5, ground := Ground.phase }, { on := 6, ground := Ground.phase }, { on := 7, ground := Ground.phase }], guard := none }) rfl (fun K hK => ?_) AllReadyH.nil)
    go_simp
    (try go_wp2_with fail)
    refine hK.out _ _ trivial (fun hHeld => ?_)
    clear hK K
    try simp only [Act.put, List.setIfInBounds_toArray, List.set_cons_zero, List.set_cons_succ]
    refine wpAnyH_done (by kernel_rfl) ?_ _
    go_wp2_with fail
    go_ret
    exact ⟨rfl, look_set H2.out.br x, H2.out.tn.trans ((turn5 w2 s 2 3 4 5 6 (.int .u8 x.b) (.bool x.ge) (.bool x.st) (.int .u8 x.li) (.int .u8 x.co)).mono fun k hk => .inl hk)⟩
  · go_simp
    (try go_wp2_with fail)
    refine hK.out _ _ trivial (fun hHeld => ?_)
    clear hK K
    try simp only [Act.put, List.setIfInBounds_toArray, List.set_cons_zero, List.set_cons_succ]
    refine wpAnyH_ready (rs := [4]) (by kernel_rfl) (by simp) (AllReadyH.cons (o := { dst := some 9, op := Op.load 45 (Operand.tmp 8), type := 45, pos := "paint.go:125", after := #[{ on := 3, ground := Ground.data }], guard := none }) rfl (fun K hK => ?_) AllReadyH.nil)
    go_simp
    (try go_wp2_with fail)
    refine hK.out _ _ trivial (fun hHeld => ?_)
    clear hK K
    try simp only [Act.put, List.setIfInBounds_toArray, List.set_cons_zero, List.set_cons_succ]
    refine wpAnyH_ready (rs := [7]) (by kernel_rfl) (by simp) (AllReadyH.cons (o := { dst := some 12, op := Op.call { callee := Callee.value (Operand.func 146), args := #[Operand.tmp 9, Operand.tmp 11], argTypes := #[45, 71] }, type := 45, pos := "paint.go:125", after := #[{ on := 4, ground := Ground.data }, { on := 6, ground := Ground.data }], guard := none }) rfl (fun K hK => ?_) AllReadyH.nil)
    go_simp
    go_at_call 146
    refine HD.out.mono ?_
    rintro e w2 ⟨rfl, hb2⟩
    have H2 := Lib.hid (H0.out.drew.below hb2)
    obtain ⟨p0, p1, p2, p3, p4, p5, p6, p7, pf⟩ := H2.out.br.cells
    clear hb2 q0 q1 q2 q3 q4 q5 q6 q7 o0 o1 o2 o3 o4 o5 fz
    go_wp2_with fail
    refine hK.out _ _ trivial (fun hHeld => ?_)
    clear hK K
    try simp only [Act.put, List.setIfInBounds_toArray, List.set_cons_zero, List.set_cons_succ]
    refine wpAnyH_take (i := 8) (oi := { dst := some 13, op := Op.nilCheck (Operand.tmp 5), type := 0, pos := "paint.go:125", after := #[{ on := 0, ground := Ground.data }, { on := 0, ground := Ground.phase }, { on := 1, ground := Ground.phase }, { on := 2, ground := Ground.phase }, { on := 3, ground := Ground.phase }, { on := 4, ground := Ground.phase }, { on := 5, ground := Ground.phase }, { on := 6, ground := Ground.phase }, { on := 7, ground := Ground.phase }], guard := none }) (v := ?_) rfl (by kernel_rfl) (by kernel_rfl) (by kernel_rfl) (fun _ _ _ h => h) (Or.inl ⟨by rfl, ?_⟩) (by assumption) ?_
    rotate_left
    focus (intro w hSw; (try dsimp only at hSw); go_simp; try (with_reducible rfl))
    try simp only [Act.put, List.setIfInBounds_toArray, List.set_cons_zero, List.set_cons_succ]
    refine wpAnyH_take (i := 9) (oi := { dst := some 14, op := Op.fieldAddr 117 (Operand.tmp 13) 2, type := 0, pos := "paint.go:125", after := #[{ on := 8, ground := Ground.data }, { on := 0, ground := Ground.phase }, { on := 1, ground := Ground.phase }, { on := 2, ground := Ground.phase }, { on := 3, ground := Ground.phase }, { on := 4, ground := Ground.phase }, { on := 5, ground := Ground.phase }, { on := 6, ground := Ground.phase }, { on := 7, ground := Ground.phase }], guard := none }) (v := ?_) rfl (by kernel_rfl) (by kernel_rfl) (by kernel_rfl) (fun _ _ _ h => h) (Or.inl ⟨by rfl, ?_⟩) (by assumption) ?_
    rotate_left
    focus (intro w hSw; (try dsimp only at hSw); go_simp; try (with_reducible rfl))
    try simp only [Act.put, List.setIfInBounds_toArray, List.set_cons_zero, List.set_cons_succ]
    refine wpAnyH_ready (rs := [10]) (by kernel_rfl) (by simp) (AllReadyH.cons (o := { dst := none, op := Op.store 45 (Operand.tmp 14) (Operand.tmp 12), type := 0, pos := "paint.go:125", after := #[{ on := 9, ground := Ground.data }, { on := 7, ground := Ground.data }, { on := 7, ground := Ground.chain }, { on := 0, ground := Ground.phase }, { on := 1, ground := Ground.phase }, { on := 2, ground := Ground.phase }, { on := 3, ground := Ground.phase }, { on := 4, ground := Ground.phase }, { on := 5, ground := Ground.phase }, { on := 6, ground := Ground.phase }, { on := 7, ground := Ground.phase }], guard := none }) rfl (fun K hK => ?_) AllReadyH.nil)
    go_simp
    (try go_wp2_with fail)
    refine hK.out _ _ trivial (fun hHeld => ?_)
    clear hK K
    try simp only [Act.put, List.setIfInBounds_toArray, List.set_cons_zero, List.set_cons_succ]
    refine wpAnyH_done (by kernel_rfl) ?_ _
    go_wp2_with fail
    go_ret
    exact ⟨rfl, look_set H2.out.br x, H2.out.tn.trans ((turn5 w2 s 2 3 4 5 6 (.int .u8 x.b) (.bool x.ge) (.bool x.st) (.int .u8 x.li) (.int .u8 x.co)).mono fun k hk => .inl hk)⟩
set_option maxRecDepth 100000 in
set_option maxHeartbeats 4000000 in
theorem repeat_any (h : BrAt W s b g r c B) (o : Or) (vp vd : Value) : Calls Try.prog 133 #[.pointer (some ⟨s, 0, none⟩), .agg (OV o vp vd)] W (OQ W s b g r c (if hasL B.M o.addr then (B.ra o.addr o.byte o.ge, 0) else (B, 32))) := by
  have h0 := BoQ.begin h o vp vd
  obtain ⟨W0, hW0⟩ : ∃ W0, W0 = W.alloc (.cells #[.int .u8 o.kind, .int .i64 o.addr, .int .u8 o.byte, .bool o.ge, vp, vd] 73) := ⟨_, rfl⟩
  rw [← hW0] at h0
  have H0 := Lib.hid h0
  have HW := Lib.hid hW0.symm
  have hH := Lib.hid (brHas_any h0.br o.addr)
  obtain ⟨o0, o1, o2, o3, o4, o5⟩ := h0.oc
  clear h h0 hW0
  cases hc : hasL B.M o.addr with
  | true =>
    rw [hc] at hH
    have HC := Lib.hid hc
    clear hc
    go_enter Try.func133, Try.ntmps133
    go_wp2_with fail
    rw [HW.out]
    go_upto_region 3 with (go_at_call 72; refine hH.out.mono ?_; rintro e w1 ⟨rfl, rfl⟩)
    obtain ⟨q0, q1, q2, q3, q4, q5, q6, q7, fz⟩ := H0.out.br.drew.cells
    obtain ⟨o0, o1, o2, o3, o4, o5⟩ := H0.out.drew.oc
    refine wp_region_held_drew (S := fun X => X.cell? ⟨s, 0, none⟩ = some (.pointer (some ⟨b, 0, none⟩)) ∧ X.cell? ⟨s, 1, none⟩ = some (.int .i64 B.p) ∧ X.cell? ⟨W.heap.size, 1, none⟩ = some (.int .i64 o.addr) ∧ X.cell? ⟨W.heap.size, 2, none⟩ = some (.int .u8 o.byte) ∧ X.cell? ⟨W.heap.size, 3, none⟩ = some (.bool o.ge)) (by kernel_rfl) (⟨q0, q1, o1, o2, o3⟩) (fun hHeld => ?_)
    refine wpAnyH_take (i := 0) (oi := { dst := some 10, op := Op.move (Operand.tmp 0), type := 148, pos := "paint.go:168", after := #[], guard := none }) (v := ?_) rfl (by kernel_rfl) (by kernel_rfl) (by kernel_rfl) (fun _ _ _ h => h) (Or.inl ⟨by rfl, ?_⟩) (by assumption) ?_
    rotate_left
    focus (intro w hSw; (try dsimp only at hSw); go_simp; try (with_reducible rfl))
    try simp only [Act.put, List.setIfInBounds_toArray, List.set_cons_zero, List.set_cons_succ]
    refine wpAnyH_take (i := 1) (oi := { dst := some 11, op := Op.nilCheck (Operand.tmp 10), type := 0, pos := "paint.go:168", after := #[{ on := 0, ground := Ground.data }], guard := none }) (v := ?_) rfl (by kernel_rfl) (by kernel_rfl) (by kernel_rfl) (fun _ _ _ h => h) (Or.inl ⟨by rfl, ?_⟩) (by assumption) ?_
    rotate_left
    focus (intro w hSw; (try dsimp only at hSw); go_simp; try (with_reducible rfl))
    try simp only [Act.put, List.setIfInBounds_toArray, List.set_cons_zero, List.set_cons_succ]
    refine wpAnyH_take (i := 2) (oi := { dst := some 12, op := Op.fieldAddr 117 (Operand.tmp 11) 0, type := 0, pos := "paint.go:168", after := #[{ on := 1, ground := Ground.data }], guard := none }) (v := ?_) rfl (by kernel_rfl) (by kernel_rfl) (by kernel_rfl) (fun _ _ _ h => h) (Or.inl ⟨by rfl, ?_⟩) (by assumption) ?_
    rotate_left
    focus (intro w hSw; (try dsimp only at hSw); go_simp; try (with_reducible rfl))
    try simp only [Act.put, List.setIfInBounds_toArray, List.set_cons_zero, List.set_cons_succ]
    refine wpAnyH_take (i := 3) (oi := { dst := some 13, op := Op.load 26 (Operand.tmp 12), type := 26, pos := "paint.go:168", after := #[{ on := 2, ground := Ground.data }], guard := none }) (v := ?_) rfl (by kernel_rfl) (by kernel_rfl) (by kernel_rfl) (fun _ _ _ h => h) (Or.inl ⟨by rfl, ?_⟩) (by assumption) ?_
    rotate_left
    focus (intro w hSw; (try dsimp only at hSw); go_simp; try (with_reducible rfl))
    try simp only [Act.put, List.setIfInBounds_toArray, List.set_cons_zero, List.set_cons_succ]
    refine wpAnyH_take (i := 4) (oi := { dst := some 14, op := Op.move (Operand.tmp 0), type := 148, pos := "paint.go:168", after := #[], guard := none }) (v := ?_) rfl (by kernel_rfl) (by kernel_rfl) (by kernel_rfl) (fun _ _ _ h => h) (Or.inl ⟨by rfl, ?_⟩) (by assumption) ?_
    rotate_left
    focus (intro w hSw; (try dsimp only at hSw); go_simp; try (with_reducible rfl))
    try simp only [Act.put, List.setIfInBounds_toArray, List.set_cons_zero, List.set_cons_succ]
    refine wpAnyH_take (i := 5) (oi := { dst := some 15, op := Op.nilCheck (Operand.tmp 14), type := 0, pos := "paint.go:168", after := #[{ on := 4, ground := Ground.data }], guard := none }) (v := ?_) rfl (by kernel_rfl) (by kernel_rfl) (by kernel_rfl) (fun _ _ _ h => h) (Or.inl ⟨by rfl, ?_⟩) (by assumption) ?_
    rotate_left
    focus (intro w hSw; (try dsimp only at hSw); go_simp; try (with_reducible rfl))
    try simp only [Act.put, List.setIfInBounds_toArray, List.set_cons_zero, List.set_cons_succ]
    refine wpAnyH_take (i := 6) (oi := { dst := some 16, op := Op.fieldAddr 117 (Operand.tmp 15) 1, type := 0, pos := "paint.go:168", after := #[{ on := 5, ground := Ground.data }], guard := none }) (v := ?_) rfl (by kernel_rfl) (by kernel_rfl) (by kernel_rfl) (fun _ _ _ h => h) (Or.inl ⟨by rfl, ?_⟩) (by assumption) ?_
    rotate_left
    focus (intro w hSw; (try dsimp only at hSw); go_simp; try (with_reducible rfl))
    try simp only [Act.put, List.setIfInBounds_toArray, List.set_cons_zero, List.set_cons_succ]
    refine wpAnyH_take (i := 7) (oi := { dst := some 17, op := Op.load 3 (Operand.tmp 16), type := 3, pos := "paint.go:168", after := #[{ on := 6, ground := Ground.data }], guard := none }) (v := ?_) rfl (by kernel_rfl) (by kernel_rfl) (by kernel_rfl) (fun _ _ _ h => h) (Or.inl ⟨by rfl, ?_⟩) (by assumption) ?_
    rotate_left
    focus (intro w hSw; (try dsimp only at hSw); go_simp; try (with_reducible rfl))
    try simp only [Act.put, List.setIfInBounds_toArray, List.set_cons_zero, List.set_cons_succ]
    refine wpAnyH_take (i := 8) (oi := { dst := some 18, op := Op.fieldAddr 73 (Operand.tmp 3) 1, type := 0, pos := "paint.go:168", after := #[], guard := none }) (v := ?_) rfl (by kernel_rfl) (by kernel_rfl) (by kernel_rfl) (fun _ _ _ h => h) (Or.inl ⟨by rfl, ?_⟩) (by assumption) ?_
    rotate_left
    focus (intro w hSw; (try dsimp only at hSw); go_simp; try (with_reducible rfl))
    try simp only [Act.put, List.setIfInBounds_toArray, List.set_cons_zero, List.set_cons_succ]
    refine wpAnyH_take (i := 9) (oi := { dst := some 19, op := Op.load 3 (Operand.tmp 18), type := 3, pos := "paint.go:168", after := #[{ on := 8, ground := Ground.data }], guard := none }) (v := ?_) rfl (by kernel_rfl) (by kernel_rfl) (by kernel_rfl) (fun _ _ _ h => h) (Or.inl ⟨by rfl, ?_⟩) (by assumption) ?_
    rotate_left
    focus (intro w hSw; (try dsimp only at hSw); go_simp; try (with_reducible rfl))
    try simp only [Act.put, List.setIfInBounds_toArray, List.set_cons_zero, List.set_cons_succ]
    refine wpAnyH_take (i := 10) (oi := { dst := some 20, op := Op.move (Operand.tmp 0), type := 148, pos := "paint.go:168", after := #[], guard := none }) (v := ?_) rfl (by kernel_rfl) (by kernel_rfl) (by kernel_rfl) (fun _ _ _ h => h) (Or.inl ⟨by rfl, ?_⟩) (by assumption) ?_
    rotate_left
    focus (intro w hSw; (try dsimp only at hSw); go_simp; try (with_reducible rfl))
    try simp only [Act.put, List.setIfInBounds_toArray, List.set_cons_zero, List.set_cons_succ]
    refine wpAnyH_take (i := 11) (oi := { dst := some 21, op := Op.fieldAddr 73 (Operand.tmp 3) 2, type := 0, pos := "paint.go:168", after := #[], guard := none }) (v := ?_) rfl (by kernel_rfl) (by kernel_rfl) (by kernel_rfl) (fun _ _ _ h => h) (Or.inl ⟨by rfl, ?_⟩) (by assumption) ?_
    rotate_left
    focus (intro w hSw; (try dsimp only at hSw); go_simp; try (with_reducible rfl))
    try simp only [Act.put, List.setIfInBounds_toArray, List.set_cons_zero, List.set_cons_succ]
    refine wpAnyH_take (i := 12) (oi := { dst := some 22, op := Op.load 5 (Operand.tmp 21), type := 5, pos := "paint.go:168", after := #[{ on := 11, ground := Ground.data }], guard := none }) (v := ?_) rfl (by kernel_rfl) (by kernel_rfl) (by kernel_rfl) (fun _ _ _ h => h) (Or.inl ⟨by rfl, ?_⟩) (by assumption) ?_
    rotate_left
    focus (intro w hSw; (try dsimp only at hSw); go_simp; try (with_reducible rfl))
    try simp only [Act.put, List.setIfInBounds_toArray, List.set_cons_zero, List.set_cons_succ]
    refine wpAnyH_take (i := 13) (oi := { dst := some 23, op := Op.fieldAddr 73 (Operand.tmp 3) 3, type := 0, pos := "paint.go:168", after := #[], guard := none }) (v := ?_) rfl (by kernel_rfl) (by kernel_rfl) (by kernel_rfl) (fun _ _ _ h => h) (Or.inl ⟨by rfl, ?_⟩) (by assumption) ?_
    rotate_left
    focus (intro w hSw; (try dsimp only at hSw); go_simp; try (with_reducible rfl))
    try simp only [Act.put, List.setIfInBounds_toArray, List.set_cons_zero, List.set_cons_succ]
    refine wpAnyH_take (i := 14) (oi := { dst := some 24, op := Op.load 4 (Operand.tmp 23), type := 4, pos := "paint.go:168", after := #[{ on := 13, ground := Ground.data }], guard := none }) (v := ?_) rfl (by kernel_rfl) (by kernel_rfl) (by kernel_rfl) (fun _ _ _ h => h) (Or.inl ⟨by rfl, ?_⟩) (by assumption) ?_
    rotate_left
    focus (intro w hSw; (try dsimp only at hSw); go_simp; try (with_reducible rfl))
    try simp only [Act.put, List.setIfInBounds_toArray, List.set_cons_zero, List.set_cons_succ]
    refine wpAnyH_ready (rs := [15]) (by kernel_rfl) (by simp) (AllReadyH.cons (o := { dst := some 25, op := Op.call { callee := Callee.value (Operand.func 144), args := #[Operand.tmp 20, Operand.tmp 22, Operand.tmp 24], argTypes := #[148, 5, 4] }, type := 45, pos := "paint.go:168", after := #[{ on := 10, ground := Ground.data }, { on := 12, ground := Ground.data }, { on := 14, ground := Ground.data }], guard := none }) rfl (fun K hK => ?_) AllReadyH.nil)
    go_simp
    go_at_call 144
    refine (sign_any H0.out.br.drew o.byte o.ge).mono ?_
    rintro e w2 ⟨rfl, hb2⟩
    have H2 := Lib.hid (H0.out.drew.below hb2)
    obtain ⟨p0, p1, _⟩ := H2.out.br.cells
    obtain ⟨z0, z1, z2, z3, z4, z5⟩ := H2.out.oc
    clear hb2
    go_wp2_with fail
    refine hK.out _ _ (⟨p0, p1, z1, z2, z3⟩) (fun hHeld => ?_)
    clear hK K
    try simp only [Act.put, List.setIfInBounds_toArray, List.set_cons_zero, List.set_cons_succ]
    refine wpAnyH_ready (rs := [16]) (by kernel_rfl) (by simp) (AllReadyH.cons (o := { dst := some 26, op := Op.call { callee := Callee.value (Operand.func 79), args := #[Operand.tmp 13, Operand.tmp 17, Operand.tmp 19, Operand.tmp 25], argTypes := #[26, 3, 3, 45] }, type := 3, pos := "paint.go:168", after := #[{ on := 3, ground := Ground.data }, { on := 7, ground := Ground.data }, { on := 9, ground := Ground.data }, { on := 15, ground := Ground.data }, { on := 15, ground := Ground.chain }], guard := none }) rfl (fun K hK => ?_) AllReadyH.nil)
    go_simp
    go_at_call 79
    refine (fill_any H2.out.br.pl B.p o.addr (B.chr o.byte o.ge)).mono ?_
    rintro e w3 ⟨rfl, hp3, ht3⟩
    have H3 := Lib.hid (H2.out.turn hp3 ht3 (fillL_length _ _ _))
    obtain ⟨u0, u1, _⟩ := H3.out.br.cells
    obtain ⟨y0, y1, y2, y3, y4, y5⟩ := H3.out.oc
    clear hp3 ht3
    go_wp2_with fail
    refine hK.out _ _ (⟨u0, u1, y1, y2, y3⟩) (fun hHeld => ?_)
    clear hK K
    try simp only [Act.put, List.setIfInBounds_toArray, List.set_cons_zero, List.set_cons_succ]
    refine wpAnyH_done (by kernel_rfl) ?_ _
    obtain ⟨x0, x1, x2, x3, x4, x5, x6, x7, fz2⟩ := H3.out.br.cells
    clear q0 q1 q2 q3 q4 q5 q6 q7 o0 o1 o2 o3 o4 o5 p0 p1 z0 z1 z2 z3 z4 z5 u0 u1 fz
    go_wp2_with fail
    go_ret
    have hr := HC.out
    unfold hasL at hr
    have hr2 := of_decide_eq_true hr
    have H4 := H3.out.place o.addr hr2.1 (by show o.addr < ((fillL B.M _ _).length : Int); rw [fillL_length]; exact hr2.2)
    exact ⟨rfl, H4.br, H4.tn⟩
  | false =>
    rw [hc] at hH
    clear hc
    go_enter Try.func133, Try.ntmps133
    go_wp2_with fail
    rw [HW.out]
    go_wp2_with (go_at_call 72; refine hH.out.mono ?_; rintro e w1 ⟨rfl, rfl⟩)
    go_ret
    exact ⟨rfl, H0.out.br, H0.out.tn⟩
end
end Go.Proofs.Ytglkjcdbffkbcaa.Pl
