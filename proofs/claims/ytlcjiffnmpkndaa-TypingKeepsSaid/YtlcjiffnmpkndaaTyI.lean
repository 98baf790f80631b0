/-
  The example of typing's laws.
-/
import Derived.Test.YtlcjiffnmpkndaaTyH
namespace Go.Proofs.Ytlcjiffnmpkndaa.Pl
open Go.RowKit Go.Shelf Base
set_option linter.unusedVariables false
set_option linter.unusedSimpArgs false

def t0L : List Cl := [cax 0 true, c0, c0, c0, c0, c0]
def t1L : List Cl := [cax 0 true, cax 193 false, c0, c0, c0, c0]
def t2L : List Cl := [cax 0 true, cax 193 false, c0, c0, cax 16 true, c0]
def t3R : List Cl × Int × Int := putM t2L 1 194 true
def t3L : List Cl := [cax 1 true, cax 194 false, cax 193 false, c0, cax 16 true, c0]
def t4L : List Cl := [cax 1 true, cax 193 false, c0, c0, cax 16 true, c0]
def t5L : List Cl := [cax 1 true, cax 241 false, cax 242 false, cax 243 false, cax 16 true, c0]
def t6L : List Cl := [cax 1 true, cax 28 false, cax 242 false, cax 243 false, cax 16 true, c0]
theorem ty_cells : cells 1 6 = ((6 : Nat) : Int) := by decide
theorem ty_set : setL (List.replicate 6 c0) 0 ⟨0, false, true, 0, 0⟩ = t0L ∧ setL t0L 1 ⟨193, false, false, 0, 0⟩ = t1L ∧ setL t1L 4 ⟨16, false, true, 0, 0⟩ = t2L := by decide +kernel
theorem ty_1 : putM t2L 1 194 true = (t3L, 2, 0) := by decide +kernel
theorem ty_at : cax 194 false = atL t3L 1 ∧ cax 193 false = atL t3L 2 ∧ c0 = atL t3L 3 ∧ cax 28 false = atL t6L 1 ∧ cax 1 true = atL t6L 0 := by decide +kernel
theorem ty_2 : delM t3L 1 = (t4L, 1, 0) := by decide +kernel
theorem ty_3 : strM false [241, 242, 243, 193] t4L 1 = (t5L, 5, 3, 42) := by decide +kernel
theorem ty_4 : putM t5L 5 193 false = (t5L, 5, 42) := by decide +kernel
theorem ty_5 : endM t5L 0 = (t5L, 0, 41) := by decide +kernel
theorem ty_6 : dupM t5L 1 false = (t6L, 5, 0) := by decide +kernel
theorem ty_7 : putM t6L 5 30 false = (t6L, 5, 42) := by decide +kernel
theorem ty_bo {L : List Cl} (h : L.all (fun x => decide (0 ≤ x.b ∧ x.b ≤ 255)) = true) : BoL L := bo_ca (fun x hx => by have := List.all_eq_true.1 h x hx; simpa using this)
/-- What the example holds. -/
structure TsQ (w : World) (b g : Nat) (cur : Int) (L : List Cl) (W : World) : Prop where
  p : PlAt W b g 1 6 cur L
  old : Below w.heap.size w W
  lb : w.heap.size ≤ b
  lg : w.heap.size ≤ g
section
variable {w W W' : World} {b g : Nat} {cur : Int} {L : List Cl}
theorem TsQ.below (h : TsQ w b g cur L W) (t : Below W.heap.size W W') : TsQ w b g cur L W' := ⟨h.p.below t, h.old.trans (t.mono h.old.size), h.lb, h.lg⟩
theorem TsQ.turn (h : TsQ w b g cur L W) {cur' : Int} {L' : List Cl} (hp : PlAt W' b g 1 6 cur' L') (t : Turn (Or2 (At b) (At g)) W W') : TsQ w b g cur' L' W' :=
  ⟨hp, h.old.trans (t.below h.old.size (fun k hk => by have h1 := h.lb; have h2 := h.lg; rcases hk with hk | hk <;> unfold At at hk <;> omega)), h.lb, h.lg⟩
theorem TsQ.q (h : TsQ w b g cur L W) {cur' : Int} {L' : List Cl} (q : TqQ W b g 1 6 cur' L' W') : TsQ w b g cur' L' W' := h.turn q.pl q.tn
end
theorem put_k {w : World} {b g : Nat} {r c : Int} {f : Nat} {args : Array Value} {R R' : List Cl × Int × Int} (h : Calls Try.prog f args w (PutP w b g r c R)) (e : R = R') : Calls Try.prog f args w (PutP w b g r c R') := e ▸ h
theorem str_k {w : World} {b g : Nat} {r c : Int} {f : Nat} {args : Array Value} {R R' : List Cl × Int × Nat × Int} (h : Calls Try.prog f args w (StrP w b g r c R)) (e : R = R') : Calls Try.prog f args w (StrP w b g r c R') := e ▸ h
theorem set_k {w : World} {b g : Nat} {r c cur : Int} {L M : List Cl} (h : PlAt w b g r c cur L) (i : Int) (x : Cl) (hi : hasL L i = true) (e : setL L i x = M) : Calls Try.prog 57 #[.pointer (some ⟨b, 0, none⟩), .int .i64 i, x.val] w fun e W' => e = .returned (.bool true) ∧ PlAt W' b g r c cur M ∧ Turn (At g) w W' := by
  have h1 := set_any h i x
  rw [hi, e] at h1; exact h1
abbrev tb3 : Obj := .cells #[.int .u8 194, .int .u8 193, .int .u8 0] 5
abbrev tb4 : Obj := .cells #[.int .u8 241, .int .u8 242, .int .u8 243, .int .u8 193] 5
theorem tconv (w : World) : (convert 61 9 (.slice (some ⟨w.heap.size, 0, none⟩) 3 3)).run Try.prog (w.alloc tb3) = .ok (.string { data := #[194, 193, 0] }) (w.alloc tb3) := by
  have hr : RowOf .u8 (w.alloc tb3) (.slice (some ⟨w.heap.size, 0, none⟩) 3 3) [194, 193, 0] := ⟨_, 3, rfl, fun _ => ⟨w.heap.size, 0, rfl, fun i hi => by
    have hi' : i = 0 ∨ i = 1 ∨ i = 2 := by simp at hi; omega
    rcases hi' with rfl | rfl | rfl <;> simp [go_sem, tb3]⟩⟩
  exact row_str hr
theorem trow (w : World) (b g : Nat) (h : b < w.heap.size ∧ g < w.heap.size) : RowIn (fun k => k ≠ b ∧ k ≠ g) .u8 (w.alloc tb4) (.slice (some ⟨w.heap.size, 0, none⟩) 4 4) [241, 242, 243, 193] :=
  ⟨_, 4, rfl, fun _ => ⟨w.heap.size, 0, rfl, by omega, by simp, fun i hi => by
    have hi' : i = 0 ∨ i = 1 ∨ i = 2 ∨ i = 3 := by simp at hi; omega
    rcases hi' with rfl | rfl | rfl | rfl <;> simp [go_sem, tb4]⟩⟩
set_option maxRecDepth 100000 in
set_option maxHeartbeats 8000000 in
theorem ty_alive (w : World) : Calls Try.prog 41 #[] w fun e W => e = .returned (.bool true) ∧ Below w.heap.size w W := by
  have HN := Lib.hid (new_yes 1 6 6 w ty_cells (by omega) (by omega))
  obtain ⟨e1, e2, e3⟩ := ty_set
  obtain ⟨a1, a2, a3, a4, a5⟩ := ty_at
  have E1 := Lib.hid e1
  have E2 := Lib.hid e2
  have E3 := Lib.hid e3
  have A1 := Lib.hid a1
  have A2 := Lib.hid a2
  have A3 := Lib.hid a3
  have A4 := Lib.hid a4
  have A5 := Lib.hid a5
  clear e1 e2 e3 a1 a2 a3 a4 a5
  have cb1 := cell_byte 194 false false 0 0
  have cb2 := cell_byte 193 false false 0 0
  have cb3 := cell_byte 0 false false 0 0
  have cb4 := cell_byte 28 false false 0 0
  have cb5 := cell_byte 1 false true 0 0
  go_enter Try.func41, Try.ntmps41
  go_upto_region 9 with (first
    | (go_at_call 55; (with_reducible refine HN.out.mono ?_); rintro e w1 ⟨b, g, rfl, hp, hb, l1, l2⟩; have H1 := Lib.hid (show TsQ w b g 0 (List.replicate 6 c0) w1 from ⟨hp, hb, l1, l2⟩); clear hp hb l1 l2)
    | (go_at_call 57; (with_reducible refine (set_k H1.out.p 0 ⟨0, false, true, 0, 0⟩ (by decide) E1.out).mono ?_); rintro e w2 ⟨rfl, hp, ht⟩; have H2 := Lib.hid (H1.out.turn hp (ht.mono fun k hk => .inr hk)); clear hp ht)
    | (go_at_call 57; (with_reducible refine (set_k H2.out.p 1 ⟨193, false, false, 0, 0⟩ (by decide) E2.out).mono ?_); rintro e w3 ⟨rfl, hp, ht⟩; have H3 := Lib.hid (H2.out.turn hp (ht.mono fun k hk => .inr hk)); clear hp ht)
    | (go_at_call 57; (with_reducible refine (set_k H3.out.p 4 ⟨16, false, true, 0, 0⟩ (by decide) E3.out).mono ?_); rintro e w4 ⟨rfl, hp, ht⟩; have H4 := Lib.hid (H3.out.turn hp (ht.mono fun k hk => .inr hk)); clear hp ht)
    | (go_at_call 34; (with_reducible refine (point_k H4.out.p 1 (by decide)).mono ?_); rintro e w5 ⟨rfl, hp, ht⟩; have H5 := Lib.hid (H4.out.turn hp (ht.mono fun k hk => .inl hk)); clear hp ht)
    | (go_at_call 49; (with_reducible refine (put_k (put_any H5.out.p (ty_bo (by decide)) 194 (by decide) true) ty_1).mono ?_); rintro e w6 ⟨rfl, hq⟩; have H6 := Lib.hid (H5.out.q hq); clear hq))
  go_wp2_with (first
    | (go_at_call 40; (with_reducible refine (at_is H6.out.p A1.out).mono ?_); rintro e w7 ⟨rfl, hb⟩; simp only [Cl.val, cax]; have H7 := Lib.hid (H6.out.below hb); clear hb)
    | (go_at_call 40; (with_reducible refine (at_is H7.out.p A2.out).mono ?_); rintro e w8 ⟨rfl, hb⟩; simp only [Cl.val, cax]; have H8 := Lib.hid (H7.out.below hb); clear hb)
    | (go_at_call 40; (with_reducible refine (at_is H8.out.p A3.out).mono ?_); rintro e w9 ⟨rfl, hb⟩; simp only [Cl.val, c0]; have H9 := Lib.hid ((H8.out.below hb).below (below_alloc w9 tb3)); have hcv := tconv w9; simp only [tb3] at hcv; clear hb)
    | (go_at_call 34; (with_reducible refine (point_k H9.out.p 1 (by decide)).mono ?_); rintro e wa ⟨rfl, hp, ht⟩; have Ha := Lib.hid (H9.out.turn hp (ht.mono fun k hk => .inl hk)); clear hp ht hcv)
    | (go_at_call 52; (with_reducible refine (put_k (del_any Ha.out.p (ty_bo (by decide))) ty_2).mono ?_); rintro e wb ⟨rfl, hq⟩; have Hb := Lib.hid ((Ha.out.q hq).below (below_alloc wb tb4)); have Hr := Lib.hid (trow wb b g ⟨hq.pl.lt, hq.pl.ltg⟩); clear hq)
    | (go_at_call 53; (with_reducible refine (str_k (string_any Hb.out.p (ty_bo (by decide)) _ _ Hr.out (by decide) (by decide) false) ty_3).mono ?_); rintro e wc ⟨rfl, hq⟩; have Hc := Lib.hid (Hb.out.q hq); clear hq)
    | (go_at_call 49; (with_reducible refine (put_k (put_any Hc.out.p (ty_bo (by decide)) 193 (by decide) false) ty_4).mono ?_); rintro e wd ⟨rfl, hq⟩; have Hd := Lib.hid (Hc.out.q hq); clear hq)
    | (go_at_call 34; (with_reducible refine (point_k Hd.out.p 0 (by decide)).mono ?_); rintro e we ⟨rfl, hp, ht⟩; have He := Lib.hid (Hd.out.turn hp (ht.mono fun k hk => .inl hk)); clear hp ht)
    | (go_at_call 54; (with_reducible refine (put_k (end_any He.out.p (ty_bo (by decide))) ty_5).mono ?_); rintro e wf ⟨rfl, hq⟩; have Hf := Lib.hid (He.out.q hq); clear hq)
    | (go_at_call 34; (with_reducible refine (point_k Hf.out.p 1 (by decide)).mono ?_); rintro e wg ⟨rfl, hp, ht⟩; have Hg := Lib.hid (Hf.out.turn hp (ht.mono fun k hk => .inl hk)); clear hp ht)
    | (go_at_call 82; (with_reducible refine (put_k (dup_any Hg.out.p (ty_bo (by decide)) (by decide) false) ty_6).mono ?_); rintro e wh ⟨rfl, hq⟩; have Hh := Lib.hid (Hg.out.q hq); clear hq)
    | (go_at_call 33; (with_reducible refine (cursor_any Hh.out.p).mono ?_); rintro e wi ⟨rfl, rfl⟩)
    | (go_at_call 83; (with_reducible refine (put_k (tmark_any Hh.out.p (ty_bo (by decide)) false) ty_7).mono ?_); rintro e wj ⟨rfl, hq⟩; have Hj := Lib.hid (Hh.out.q hq); clear hq)
    | (go_at_call 40; (with_reducible refine (at_is Hj.out.p A4.out).mono ?_); rintro e wk ⟨rfl, hb⟩; simp only [Cl.val, cax]; have Hk := Lib.hid (Hj.out.below hb); clear hb)
    | (go_at_call 40; (with_reducible refine (at_is Hk.out.p A5.out).mono ?_); rintro e wl ⟨rfl, hb⟩; simp only [Cl.val, cax]; have Hl := Lib.hid (Hk.out.below hb); clear hb)
    | (go_at_call 51; (with_reducible refine (Attr.modified_any 1 _ (by decide) (by decide)).mono ?_); rintro e wm ⟨rfl, rfl⟩; simp only [Attr.modi]))
  go_ret
  exact ⟨rfl, Hl.out.old⟩
end Go.Proofs.Ytlcjiffnmpkndaa.Pl
