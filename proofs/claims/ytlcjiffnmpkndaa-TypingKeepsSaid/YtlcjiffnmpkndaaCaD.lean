/-
  Contracts of package caret: tab, home, move, newline, on.
-/
import Derived.Test.YtlcjiffnmpkndaaCaC
namespace Go.Proofs.Ytlcjiffnmpkndaa.Pl
open Go.RowKit Go.Shelf Base
set_option linter.unusedVariables false
set_option linter.unusedSimpArgs false


/-- Where it goes: the place is told, the cursor is there, nothing else is turned. -/
def GoP (w : World) (b g : Nat) (r c : Int) (L : List Cl) (x : Int) (e : Ending) (W : World) : Prop := e = .returned (.int .i64 x) ∧ PlAt W b g r c x L ∧ Turn (At b) w W
theorem headN_bd {n : Int} {xs : List Int} (h : 1 ≤ n) : 0 ≤ headN n xs ∧ headN n xs < n := by
  unfold headN
  cases xs.head? with
  | none => show (0 : Int) ≤ 0 ∧ (0 : Int) < n; omega
  | some s =>
    have hn : 0 < n := by omega
    simp only; rw [mv_pos hn]; exact ⟨Int.emod_nonneg _ (by omega), Int.emod_lt_of_pos _ (by omega)⟩
theorem mv_bd {n a b : Int} (h : 1 ≤ n) : 0 ≤ mv n a b ∧ mv n a b < n := by
  rw [mv_pos (by omega)]; exact ⟨Int.emod_nonneg _ (by omega), Int.emod_lt_of_pos _ (by omega)⟩
theorem firstEL_bd {L : List Cl} {xs : List Int} (h : 1 ≤ L.length) : 0 ≤ firstEL L xs ∧ firstEL L xs < L.length := by
  rw [firstEL_eq]; exact headN_bd (by omega)
theorem tab_bd {L : List Cl} {a : Int} (h : 1 ≤ L.length) : 0 ≤ tabL L a ∧ tabL L a < L.length := firstEL_bd h
theorem home_bd {L : List Cl} (h : 1 ≤ L.length) : 0 ≤ homeL L ∧ homeL L < L.length := by rw [home_ops]; exact headN_bd (by omega)
/-- A plane, and a size's own block. -/
structure CzQ (w : World) (b g : Nat) (r c cur : Int) (L : List Cl) (s : Nat) (W : World) : Prop where
  pl : PlAt W b g r c cur L
  bx : W.heap[s]? = some (.cells #[.int .i64 r, .int .i64 c] 23 (0, 0))
  bl : Below w.heap.size w W
section
variable {w : World} {b g : Nat} {r c cur : Int} {L : List Cl} {s : Nat} {W W' : World}
theorem CzQ.below (h : CzQ w b g r c cur L s W) (hb : Below W.heap.size W W') : CzQ w b g r c cur L s W' :=
  ⟨h.pl.below hb, (hb.block s (lt_of_block h.bx)).trans h.bx, h.bl.trans (hb.mono h.bl.size)⟩
theorem CzQ.drew (h : CzQ w b g r c cur L s W) : CzQ w b g r c cur L s W.drew := ⟨h.pl.drew, h.bx, ⟨h.bl.os, h.bl.tape, h.bl.output, h.bl.size, h.bl.block⟩⟩
theorem CzQ.q (h : CzQ w b g r c cur L s W) : W.cell? ⟨s, 0, none⟩ = some (.int .i64 r) ∧ W.cell? ⟨s, 1, none⟩ = some (.int .i64 c) ∧ CzQ w b g r c cur L s W :=
  ⟨by simp [World.cell?, h.bx], by simp [World.cell?, h.bx], h⟩
theorem CzQ.begin (h : PlAt w b g r c cur L) (hb : Below w.heap.size w W) : CzQ w b g r c cur L W.heap.size (W.alloc (.cells #[.int .i64 r, .int .i64 c] 23)) :=
  ⟨(h.below hb).alloc _, heap_alloc_new W _, hb.alloc hb.size _⟩
/-- The end: the cursor is set, behind what only lays. -/
theorem GoP.of {x : Int} {e : Ending} (hb : Below w.heap.size w W) (he : e = .returned (.int .i64 x)) (hp : PlAt W' b g r c x L) (ht : Turn (At b) W W') : GoP w b g r c L x e W' := ⟨he, hp, (Turn.of_below hb).trans ht⟩
end
section
variable {w : World} {b g : Nat} {r c cur : Int} {L : List Cl}
theorem tab_any (h : PlAt w b g r c cur L) (hbo : BoL L) : Calls Try.prog 28 #[.pointer (some ⟨b, 0, none⟩)] w (GoP w b g r c L (tabL L cur)) := by
  have hbd := tab_bd (L := L) (a := cur) h.pos
  have HH := Lib.hid h
  have HBO := Lib.hid hbo
  obtain ⟨x, hx⟩ : ∃ x, x = tabL L cur := ⟨_, rfl⟩
  rw [← hx] at hbd ⊢
  have HX := Lib.hid hx
  clear h hbo hx
  go_enter Try.func28, Try.ntmps28
  go_wp2_with (first
    | (go_at_call 33; refine (cursor_any HH.out).mono ?_; rintro e w1 ⟨rfl, rfl⟩)
    | (go_at_call 71; refine (ctnext_any HH.out HBO.out cur).mono ?_; rintro e w2 ⟨he, hb2⟩; rw [← HX.out] at he; subst he; have H2 := Lib.hid (HH.out.below hb2); have B2 := Lib.hid hb2; clear hb2)
    | (go_at_call 70; refine (ctpoint_any H2.out x hbd).mono ?_; rintro e w3 ⟨rfl, hp, ht⟩))
  go_ret
  exact GoP.of B2.out rfl hp ht
theorem ctHome_any (h : PlAt w b g r c cur L) (hbo : BoL L) : Calls Try.prog 31 #[.pointer (some ⟨b, 0, none⟩)] w (GoP w b g r c L (homeL L)) := by
  have hbd := home_bd (L := L) h.pos
  have HH := Lib.hid h
  have HBO := Lib.hid hbo
  obtain ⟨x, hx⟩ : ∃ x, x = homeL L := ⟨_, rfl⟩
  rw [← hx] at hbd ⊢
  have HX := Lib.hid hx
  clear h hbo hx
  go_enter Try.func31, Try.ntmps31
  go_wp2_with (first
    | (go_at_call 77; refine (home_any HH.out HBO.out).mono ?_; rintro e w2 ⟨he, hb2⟩; rw [← HX.out] at he; subst he; have H2 := Lib.hid (HH.out.below hb2); have B2 := Lib.hid hb2; clear hb2)
    | (go_at_call 70; refine (ctpoint_any H2.out x hbd).mono ?_; rintro e w3 ⟨rfl, hp, ht⟩))
  go_ret
  exact GoP.of B2.out rfl hp ht
def ctMoveL (n : Int) (r c cur rows cols : Int) : Int := mv n (mv n cur (rows.tmod r * c)) cols
theorem tmod_small (a n : Int) (h : 1 ≤ n) : -n < a.tmod n ∧ a.tmod n < n := ⟨(tmod_bd a n h).1, (tmod_bd a n h).2.1⟩
theorem mul_small {a r c : Int} (h1 : -r < a ∧ a < r) (h2 : 1 ≤ r ∧ r ≤ 43) (h3 : 1 ≤ c ∧ c ≤ 132) : -6000 ≤ a * c ∧ a * c ≤ 6000 := by
  have e1 : a * c ≤ 43 * c := Int.mul_le_mul_of_nonneg_right (by omega) (by omega)
  have e2 : -43 * c ≤ a * c := Int.mul_le_mul_of_nonneg_right (by omega) (by omega)
  omega
set_option maxHeartbeats 1000000 in
theorem ctMove_any (h : PlAt w b g r c cur L) (rows cols : Int) : Calls Try.prog 27 #[.pointer (some ⟨b, 0, none⟩), .int .i64 rows, .int .i64 cols] w (GoP w b g r c L (ctMoveL L.length r c cur rows cols)) := by
  have hm := h.most
  have hpos := h.pos
  have hn : Hid (cells r c = (L.length : Int)) := Lib.hid h.size
  obtain ⟨hrc, hr1, hr2, hc1, hc2⟩ := cells_pos r c _ h.size (by omega)
  have HH := Lib.hid h
  obtain ⟨z, hz⟩ : ∃ z, z = rows.tmod r := ⟨_, rfl⟩
  have hzs := tmod_small rows r hr1
  rw [← hz] at hzs
  have hds := mul_small hzs ⟨hr1, hr2⟩ ⟨hc1, hc2⟩
  obtain ⟨d, hd⟩ : ∃ d, d = z * c := ⟨_, rfl⟩
  rw [← hd] at hds
  have hrem : rows.tmod r = z := hz.symm
  have hr0 : (r == 0) = false := by rw [beq_eq_false_iff_ne]; omega
  have hr0' : (r = 0) = False := by rw [eq_iff_iff, iff_false]; omega
  have hremw : IntKind.i64.wrap z = z := IntWalk.i64_in _ (by have := tmod_small rows r hr1; omega)
  have hmul : IntKind.i64.wrap (z * c) = d := by rw [← hd]; exact IntWalk.i64_in _ (by omega)
  obtain ⟨m, hmm⟩ : ∃ m, m = mv L.length cur d := ⟨_, rfl⟩
  obtain ⟨x, hx⟩ : ∃ x, x = mv L.length m cols := ⟨_, rfl⟩
  have hbd := mv_bd (n := L.length) (a := m) (b := cols) (by omega)
  rw [← hx] at hbd
  have HX := Lib.hid hx
  have HM := Lib.hid hmm
  have e : ctMoveL L.length r c cur rows cols = x := by unfold ctMoveL; rw [hrem, ← hd, ← hmm, ← hx]
  rw [e]
  have hlen : ((L.length : Int) == 0) = false := by rw [beq_eq_false_iff_ne]; omega
  have hl1 : (1 : Int) ≤ (L.length : Int) := by omega
  clear h hx hmm hd hz e hrc
  go_enter Try.func27, Try.ntmps27
  go_wp2_with fail
  refine (size_any HH.out).mono ?_
  rintro e w1 ⟨rfl, hb1⟩
  obtain ⟨W1, hW1⟩ : ∃ W1, W1 = w1.alloc (.cells #[.int .i64 r, .int .i64 c] 23) := ⟨_, rfl⟩
  have h1 := CzQ.begin HH.out hb1
  rw [← hW1] at h1
  have H1 := Lib.hid h1
  have HW1 := Lib.hid hW1.symm
  clear hb1 h1 hW1
  go_wp2_with fail
  rw [HW1.out]
  go_at_call 39
  refine (len_any H1.out.pl).mono ?_
  rintro e w' ⟨rfl, rfl⟩
  go_wp2_with fail
  go_region_held3 (fun X => X.cell? ⟨w1.heap.size, 0, none⟩ = some (.int .i64 r) ∧ X.cell? ⟨w1.heap.size, 1, none⟩ = some (.int .i64 c) ∧ CzQ w b g r c cur L w1.heap.size X)
    (with_reducible (first | assumption | exact CzQ.q H1.out.drew | exact CzQ.q (by assumption)))
    (first
      | (go_at_call 33; (with_reducible refine (cursor_any (CzQ.pl H1.out.drew)).mono ?_); rintro e w2 ⟨rfl, rfl⟩)
      | (go_at_call 69; (with_reducible refine (move_any r c cur d L.length W1.drew hn (by omega) (by omega)).mono ?_); rintro e w2 ⟨he, hb2⟩; rw [← HM.out] at he; subst he; have K2 := CzQ.below H1.out.drew hb2; clear hb2))
  all_goals
    have HK2 := Lib.hid K2
    have q0 := K2.q.1
    have q1 := K2.q.2.1
    clear K2
    go_wp2_with (first
      | (go_at_call 69; refine (move_any r c m cols L.length w2 hn (by omega) (by omega)).mono ?_; rintro e w3 ⟨he, hb3⟩; rw [← HX.out] at he; subst he; have K3 := Lib.hid (HK2.out.below hb3); clear hb3)
      | (go_at_call 70; refine (ctpoint_any K3.out.pl x hbd).mono ?_; rintro e w4 ⟨rfl, hp, ht⟩))
    go_ret
    exact GoP.of K3.out.bl rfl hp ht
set_option maxHeartbeats 1000000 in
theorem split_any (r c a n : Int) (w : World) (hn : Hid (cells r c = n)) (h0 : 0 ≤ a) (h1 : a < n) : Calls Try.prog 76 #[.agg #[.int .i64 r, .int .i64 c], .int .i64 a] w fun e W => e = .returned (.tuple #[.int .i64 (a.tdiv c), .int .i64 (a.tmod c), .bool true]) ∧ Below w.heap.size w W := by
  obtain ⟨hrc, hr1, hr2, hc1, hc2⟩ := cells_pos r c _ hn.out (by omega)
  obtain ⟨x, hx⟩ : ∃ x, x = a.tdiv c := ⟨_, rfl⟩
  obtain ⟨y, hy⟩ : ∃ y, y = a.tmod c := ⟨_, rfl⟩
  have hx0 : a.tdiv c = x := hx.symm
  have hy0 : a.tmod c = y := hy.symm
  have hxw : IntKind.i64.wrap x = x := IntWalk.i64_in _ (by
    have n1 := (cells_bd r c).2
    rw [hn.out] at n1
    rw [hx, Int.tdiv_eq_ediv_of_nonneg h0]
    have e1 := Int.ediv_le_self c h0
    have e2 := Int.ediv_nonneg h0 (show 0 ≤ c by omega)
    omega)
  rw [hx0, hy0]
  have n1 := (cells_bd r c).2
  rw [hn.out] at n1
  obtain ⟨W0, hW0⟩ : ∃ W0, W0 = w.alloc (.cells #[.int .i64 r, .int .i64 c] 23) := ⟨_, rfl⟩
  have c0 := heap_alloc_new w (.cells #[.int .i64 r, .int .i64 c] 23)
  have hb0 := below_alloc w (.cells #[.int .i64 r, .int .i64 c] 23)
  rw [← hW0] at c0 hb0
  have q0 : W0.cell? ⟨w.heap.size, 0, none⟩ = some (.int .i64 r) := by simp [World.cell?, c0]
  have q1 : W0.cell? ⟨w.heap.size, 1, none⟩ = some (.int .i64 c) := by simp [World.cell?, c0]
  have C0 := Lib.hid c0
  have B0 := Lib.hid hb0
  have HW0 := Lib.hid hW0.symm
  clear hx hy c0 hb0 hW0 hrc
  go_enter Try.func76, Try.ntmps76
  go_wp2_with fail
  rw [HW0.out]
  go_at_call 97
  refine (cells_is r c n W0 hn.out).mono ?_
  rintro e w1 ⟨rfl, hb1⟩
  have B1 := Lib.hid (B0.out.trans (hb1.mono B0.out.size))
  have d0 := cell_later hb1 q0
  have d1 := cell_later hb1 q1
  clear hb1 q0 q1
  go_wp2_with (go_at_call 111; refine (inside_yes _ _ _ h0 h1).mono ?_; rintro e w2 ⟨rfl, rfl⟩)
  go_quiet (fail)
  go_wp2
  refine bodyPost_ret (results_tmp3 rfl _ _ _) rfl ⟨rfl, below_drewN B1.out _⟩
/-- Where a new line is. -/
def nlF (n c cur : Int) : Int := mv n cur (c - cur.tmod c)
def nlL (L : List Cl) (c cur : Int) : Int := if opnL L (nlF L.length c cur) = true then nlF L.length c cur else tabL L (nlF L.length c cur)
set_option maxHeartbeats 2000000 in
theorem newline_any (h : PlAt w b g r c cur L) (hbo : BoL L) (hcur : 0 ≤ cur ∧ cur < L.length) : Calls Try.prog 30 #[.pointer (some ⟨b, 0, none⟩)] w (GoP w b g r c L (nlL L c cur)) := by
  have hm := h.most
  have hpos := h.pos
  have hn : Hid (cells r c = (L.length : Int)) := Lib.hid h.size
  obtain ⟨hrc, hr1, hr2, hc1, hc2⟩ := cells_pos r c _ h.size (by omega)
  have HH := Lib.hid h
  have HBO := Lib.hid hbo
  obtain ⟨cl, hcl⟩ : ∃ cl, cl = cur.tmod c := ⟨_, rfl⟩
  have hcs := tmod_small cur c hc1
  rw [← hcl] at hcs
  have hsub : IntKind.i64.wrap (c - cl) = c - cl := IntWalk.i64_in _ (by omega)
  obtain ⟨f, hf⟩ : ∃ f, f = mv L.length cur (c - cl) := ⟨_, rfl⟩
  have hfb := mv_bd (n := L.length) (a := cur) (b := c - cl) (by omega)
  rw [← hf] at hfb
  have e : nlL L c cur = if opnL L f = true then f else tabL L f := by unfold nlL nlF; rw [← hcl, ← hf]
  rw [e]
  obtain ⟨o, ho⟩ : ∃ o, o = opnL L f := ⟨_, rfl⟩
  obtain ⟨t, ht⟩ : ∃ t, t = tabL L f := ⟨_, rfl⟩
  have htb := tab_bd (L := L) (a := f) hpos
  rw [← ht] at htb ⊢
  rw [← ho]
  obtain ⟨y, hy⟩ : ∃ y, y = (if o = true then f else t) := ⟨_, rfl⟩
  rw [← hy]
  have HY := Lib.hid hy
  clear hy
  have HO := Lib.hid ho
  have HT := Lib.hid ht
  have HF := Lib.hid hf
  have HCL := Lib.hid hcl
  clear h hbo hcl hf ho ht e hrc
  go_enter Try.func30, Try.ntmps30
  go_wp2_with fail
  refine (size_any HH.out).mono ?_
  rintro e w1 ⟨rfl, hb1⟩
  obtain ⟨W1, hW1⟩ : ∃ W1, W1 = w1.alloc (.cells #[.int .i64 r, .int .i64 c] 23) := ⟨_, rfl⟩
  have h1 := CzQ.begin HH.out hb1
  rw [← hW1] at h1
  have H1 := Lib.hid h1
  have HW1 := Lib.hid hW1.symm
  clear hb1 h1 hW1
  go_wp2_with fail
  rw [HW1.out]
  go_region_held3 (fun X => X.cell? ⟨w1.heap.size, 0, none⟩ = some (.int .i64 r) ∧ X.cell? ⟨w1.heap.size, 1, none⟩ = some (.int .i64 c) ∧ CzQ w b g r c cur L w1.heap.size X)
    (with_reducible (first | assumption | exact CzQ.q H1.out.drew | exact CzQ.q (by assumption)))
    (first
      | (go_at_call 33; (with_reducible refine (cursor_any (CzQ.pl H1.out.drew)).mono ?_); rintro e w2 ⟨rfl, rfl⟩)
      | (go_at_call 76; (with_reducible refine (split_any r c cur L.length W1.drew hn hcur.1 hcur.2).mono ?_); rintro e w2 ⟨he, hb2⟩; rw [← HCL.out] at he; subst he; have K2 := CzQ.below H1.out.drew hb2; clear hb2))
  all_goals
    have HK2 := Lib.hid K2
    clear K2
    go_wp2_with fail
    go_region_held3 (fun X => X.cell? ⟨w1.heap.size, 0, none⟩ = some (.int .i64 r) ∧ X.cell? ⟨w1.heap.size, 1, none⟩ = some (.int .i64 c) ∧ CzQ w b g r c cur L w1.heap.size X)
      (with_reducible (first | assumption | exact CzQ.q HK2.out.drew | exact CzQ.q (by assumption)))
      (first
        | (go_at_call 33; (with_reducible refine (cursor_any (CzQ.pl HK2.out.drew)).mono ?_); rintro e w3 ⟨rfl, rfl⟩)
        | (go_at_call 69; (with_reducible refine (move_any r c cur (c - cl) L.length w2.drew hn (by omega) (by omega)).mono ?_); rintro e w3 ⟨he, hb3⟩; rw [← HF.out] at he; subst he; have K3 := CzQ.below HK2.out.drew hb3; clear hb3))
  all_goals
    have HK3 := Lib.hid K3
    clear K3
    cases o with
    | true =>
      go_wp2_with (first
        | (go_at_call 37; refine (open_any HK3.out.pl f HBO.out).mono ?_; rintro e w4 ⟨he, hb4⟩; rw [← HO.out] at he; subst he; have K4 := Lib.hid (HK3.out.below hb4); clear hb4)
        | (go_at_call 70; refine (ctpoint_any K4.out.pl f hfb).mono ?_; rintro e w5 ⟨rfl, hp, ht⟩))
      go_ret
      rw [show y = f by rw [HY.out]; simp]
      exact GoP.of K4.out.bl rfl hp ht
    | false =>
      go_wp2_with (first
        | (go_at_call 37; refine (open_any HK3.out.pl f HBO.out).mono ?_; rintro e w4 ⟨he, hb4⟩; rw [← HO.out] at he; subst he; have K4 := Lib.hid (HK3.out.below hb4); clear hb4)
        | (go_at_call 71; refine (ctnext_any K4.out.pl HBO.out f).mono ?_; rintro e w5 ⟨he, hb5⟩; rw [← HT.out] at he; subst he; have K5 := Lib.hid (K4.out.below hb5); clear hb5)
        | (go_at_call 70; refine (ctpoint_any K5.out.pl t htb).mono ?_; rintro e w5 ⟨rfl, hp, ht⟩))
      go_ret
      rw [show y = t by rw [HY.out]; simp]
      exact GoP.of K5.out.bl rfl hp ht
end
end Go.Proofs.Ytlcjiffnmpkndaa.Pl
