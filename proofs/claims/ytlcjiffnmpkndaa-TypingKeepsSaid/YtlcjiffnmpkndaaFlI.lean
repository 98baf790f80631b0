/-
  Contract of Home of package field, and of the place behind an attribute.
-/
import Derived.Test.YtlcjiffnmpkndaaFlH
namespace Go.Proofs.Ytlcjiffnmpkndaa.Pl
open Go.RowKit Go.Shelf Base
attribute [local go_sem] Oper.semAt_some
set_option linter.unusedVariables false
set_option linter.unusedSimpArgs false

/-- May something be typed into a field? -/
def goodF (f : Fd) : Bool := decide (0 < f.k) && !Attr.prot f.a
def homeL (L : List Cl) : Int := match (allL L).find? goodF with
  | some f => mv L.length f.s 1
  | none => 0
/-- A plane, and a field's own block s. -/
structure FfQ (w : World) (b g : Nat) (r c cur : Int) (L : List Cl) (s : Nat) (f : Fd) (W : World) : Prop where
  pl : PlAt W b g r c cur L
  bx : W.heap[s]? = some (.cells #[.int .i64 f.s, .int .i64 f.k, .int .u8 f.a] 74 (0, 0))
  bl : Below w.heap.size w W
theorem FfQ.below {w : World} {b g : Nat} {r c cur : Int} {L : List Cl} {s : Nat} {f : Fd} {W W' : World} (h : FfQ w b g r c cur L s f W) (hb : Below W.heap.size W W') : FfQ w b g r c cur L s f W' :=
  ⟨h.pl.below hb, (hb.block s (lt_of_block h.bx)).trans h.bx, h.bl.trans (hb.mono h.bl.size)⟩
theorem FfQ.drew {w : World} {b g : Nat} {r c cur : Int} {L : List Cl} {s : Nat} {f : Fd} {W : World} (h : FfQ w b g r c cur L s f W) : FfQ w b g r c cur L s f W.drew :=
  ⟨h.pl.drew, h.bx, ⟨h.bl.os, h.bl.tape, h.bl.output, h.bl.size, h.bl.block⟩⟩
theorem FfQ.q {w : World} {b g : Nat} {r c cur : Int} {L : List Cl} {s : Nat} {f : Fd} {W : World} (h : FfQ w b g r c cur L s f W) : W.cell? ⟨s, 0, none⟩ = some (.int .i64 f.s) ∧ FfQ w b g r c cur L s f W :=
  ⟨by simp [World.cell?, h.bx], h⟩
set_option maxHeartbeats 800000 in
theorem ffirst_any {w : World} {b g : Nat} {r c cur : Int} {L : List Cl} (h : PlAt w b g r c cur L) (f : Fd) : Calls Try.prog 113 #[.pointer (some ⟨b, 0, none⟩), f.val] w fun e W => e = .returned (.int .i64 (mv L.length f.s 1)) ∧ Below w.heap.size w W := by
  have hm := h.most
  have hn : Hid (cells r c = (L.length : Int)) := Lib.hid h.size
  obtain ⟨k, hk⟩ : ∃ k, k = mv L.length f.s 1 := ⟨_, rfl⟩
  have HK := Lib.hid hk
  rw [← hk]
  obtain ⟨W0, hW0⟩ : ∃ W0, W0 = w.alloc (.cells #[.int .i64 f.s, .int .i64 f.k, .int .u8 f.a] 74) := ⟨_, rfl⟩
  have h0 : FfQ w b g r c cur L w.heap.size f W0 := by rw [hW0]; exact ⟨h.alloc _, heap_alloc_new w _, below_alloc w _⟩
  have H0 := Lib.hid h0
  have HW0 := Lib.hid hW0.symm
  clear h hk hW0 h0
  go_enter Try.func113, Try.ntmps113
  go_wp2_with fail
  rw [HW0.out]
  go_region_held3 (fun X => X.cell? ⟨w.heap.size, 0, none⟩ = some (.int .i64 f.s) ∧ FfQ w b g r c cur L w.heap.size f X)
    (with_reducible (first | assumption | exact FfQ.q H0.out.drew | exact FfQ.q (by assumption)))
    (first
      | (go_at_call 68; (with_reducible refine (size_any (FfQ.pl H0.out.drew)).mono ?_); rintro e w1 ⟨rfl, hb1⟩; have K1 := FfQ.below H0.out.drew hb1; clear hb1)
      | (go_at_call 69; (with_reducible refine (move_any r c f.s 1 L.length w1 hn (by omega) (by omega)).mono ?_); rintro e w2 ⟨he, hb2⟩; rw [← HK.out] at he; subst he; have K2 := FfQ.below K1 hb2; clear hb2))
  all_goals
    go_wp2
    go_ret
    exact ⟨rfl, K2.bl⟩
theorem protected_k (y : Int) (w : World) (h0 : 0 ≤ y) (h1 : y ≤ 255) (v : Bool) (hv : Attr.prot y = v) : Calls Try.prog 81 #[.int .u8 y] w fun e w' => e = .returned (.bool v) ∧ w = w' := by
  subst hv; exact Attr.protected_any y w h0 h1
structure HI (w : World) (b g : Nat) (r c cur : Int) (L : List Cl) (pre : List Fd) (W : World) : Prop where
  pl : PlAt W b g r c cur L
  b0 : W.heap[w.heap.size]? = some (.cells #[.pointer (some ⟨b, 0, none⟩)] 27 (0, 0))
  b1 : W.heap[w.heap.size + 1]? = some (.cells #[.int .i64 0] 3 (0, 0))
  tn : Turn (fun _ => False) w W
  no : ∀ y ∈ pre, goodF y = false
structure HX (w : World) (L : List Cl) (pre : List Fd) (W : World) : Prop where
  hit : ∃ pre' f, pre = pre' ++ [f] ∧ (∀ y ∈ pre', goodF y = false) ∧ goodF f = true ∧ W.heap[w.heap.size + 1]? = some (.cells #[.int .i64 (mv L.length f.s 1)] 3 (0, 0))
  tn : Turn (fun _ => False) w W
section
variable {w : World} {b g : Nat} {r c cur : Int} {L : List Cl} {pre : List Fd} {W W' : World}
theorem HI.own (B : Nat) (hB : w.heap.size ≤ B) : OwnFrom B (HI w b g r c cur L) := by
  intro s X Y row h hg hr
  have hr' : ∀ r, row = some r → ∃ o : Obj, X.heap[r]? = some o ∧ o.isCells = false := fun r e => (hr r e).2
  exact ⟨h.pl.grown hg hr', (cells_kept h.b0 hg hr').trans h.b0, (cells_kept h.b1 hg hr').trans h.b1, h.tn.grown hg (fun k e => .inl (by have := (hr k e).1; omega)), h.no⟩
theorem HX.own (B : Nat) (hB : w.heap.size ≤ B) : OwnFrom B (HX w L) := by
  intro s X Y row h hg hr
  have hr' : ∀ r, row = some r → ∃ o : Obj, X.heap[r]? = some o ∧ o.isCells = false := fun r e => (hr r e).2
  obtain ⟨⟨p, x, h1, h2, h3, h4⟩, h5⟩ := h
  exact ⟨⟨p, x, h1, h2, h3, (cells_kept h4 hg hr').trans h4⟩, h5.grown hg (fun k e => .inl (by have := (hr k e).1; omega))⟩
end
theorem home_hit {L : List Cl} {pre : List Fd} {f : Fd} (hp : pre ++ [f] <+: allL L) (hno : ∀ y ∈ pre, goodF y = false) (hf : goodF f = true) : homeL L = mv L.length f.s 1 := by
  obtain ⟨t, ht⟩ := hp
  unfold homeL
  rw [← ht, List.append_assoc, List.find?_append, List.find?_eq_none.2 (fun y hy => by simp [hno y hy])]
  simp [List.find?, hf]
theorem home_none {L : List Cl} (hno : ∀ y ∈ allL L, goodF y = false) : homeL L = 0 := by
  unfold homeL
  rw [List.find?_eq_none.2 (fun y hy => by simp [hno y hy])]
set_option maxRecDepth 100000 in
set_option maxHeartbeats 2000000 in
theorem home_in {w : World} {b g : Nat} {r c cur : Int} {L : List Cl} (h : PlAt w b g r c cur L) (hbo : BoL L) :
    CallsIn Fence.wide 3 Try.prog 77 #[.pointer (some ⟨b, 0, none⟩)] w fun e W => e = .returned (.int .i64 (homeL L)) ∧ Below w.heap.size w W := by
  have hlb := h.lt
  have hlg := h.ltg
  have hm := h.most
  obtain ⟨W0, hW0⟩ : ∃ W0, W0 = (w.alloc (.cells #[.pointer (some ⟨b, 0, none⟩)] 27)).alloc (.cells #[.int .i64 0] 3) := ⟨_, rfl⟩
  have h0 : HI w b g r c cur L [] W0 := by
    rw [hW0]
    have e0 := heap_alloc_new w (.cells #[.pointer (some ⟨b, 0, none⟩)] 27)
    have e1 := heap_alloc_new (w.alloc (.cells #[.pointer (some ⟨b, 0, none⟩)] 27)) (.cells #[.int .i64 0] 3)
    simp only [World.size_alloc] at e1
    refine ⟨(h.alloc _).alloc _, ?_, e1, ?_, by simp⟩
    · rw [Below.heap_alloc _ _ _ (by simp)]; exact e0
    · exact Turn.of_below ((below_alloc w _).alloc (by simp) _)
  have hsz0 : W0.heap.size = w.heap.size + 2 := by rw [hW0]; simp
  have p0 : W0.cell? ⟨w.heap.size, 0, none⟩ = some (.pointer (some ⟨b, 0, none⟩)) := by simp [World.cell?, h0.b0]
  have HW0 := Lib.hid hW0.symm
  have H0 := Lib.hid h0
  have HBO := Lib.hid hbo
  clear hW0 h h0 hbo
  refine callsIn_of_wp_marks Try.func77 rfl trivial ?_ rfl
  simp only [Try.ntmps77, List.size_toArray, List.length_cons, List.length_nil, Nat.reduceAdd, Nat.reduceSub, Array.replicate_succ, Array.replicate_zero, List.push_toArray, List.append_toArray, List.nil_append, List.cons_append]
  gi_wp2_with fail
  rw [HW0.out]
  gi_wp2_with fail
  refine ⟨trivial, ?_⟩
  refine (callsIn_wide.2 (all_any W0 b)).mono ?_
  rintro e W1 ⟨rfl, hI, hb1, hs1⟩
  have H1 := Lib.hid (HI.own W0.heap.size (by omega) [] W0 W1 none H0.out (grown_of_below hb1) (fun _ e => by cases e))
  have hseq := all_seq 2 (by omega) W0.heap.size b g r c cur L (fun _ => L) (fun pre i => rfl) (fun pre => rfl) (fun pre => HBO.out) W1 (by omega) hI
  rw [hsz0] at hseq
  have HSQ := Lib.hid hseq
  clear hI hseq hb1 p0
  gi_wp2_with fail
  refine range_ask (α := Fd) rfl (by omega) (gf := 141) rfl trivial (enters_of Try.func141 (by kernel_rfl) rfl) HSQ.out Keep2.trans ?hKb (Below.refl _ _) (fun _ => rfl)
    (HI w b g r c cur L) (fun _ W h => h.pl) (fun c' pre W => c' = .ret ∧ HX w L pre W) (HI.own _ (by omega)) (fun c' s X Y row h hg hr => ⟨h.1, HX.own _ (by omega) s X Y row h.2 hg hr⟩) H1.out
    (fun f a' W => ∃ B, w.heap.size + 1 < B ∧ W.heap[B]? = some (.cells #[.int .i64 f.s, .int .i64 f.k, .int .u8 f.a] 74 (0, 0)) ∧ a' = { tmps := #[.pointer (some ⟨b, 0, none⟩), .pointer (some ⟨w.heap.size, 0, none⟩), .pointer (some ⟨w.heap.size + 1, 0, none⟩), .pointer (some ⟨B, 0, none⟩), .pointer (some ⟨b, 0, none⟩), .func (.func 141) #[] #[.pointer (some ⟨w.heap.size + 2, 0, none⟩)], f.val, undef, undef, undef, undef, undef, undef, undef, undef, undef, undef, undef, undef], defers := [] })
    ?hAx ?assign ?body ?done ?stop
  case hKb =>
    intro W o o' ho hc
    have := lt_of_block ho
    exact Keep2.put W o' (by omega) (by omega) (by omega) (by omega)
  case hAx =>
    rintro f a' s X Y row ⟨B, h1, h2, h3⟩ hg hr
    exact ⟨B, h1, (cells_kept h2 hg (fun r e => (hr r e).2)).trans h2, h3⟩
  case assign =>
    intro l pre f W K hsp hWs hI' hK
    rw [Nat.add_zero] at hWs
    have HI' := Lib.hid hI'
    clear hI'
    gi_wp2
    have hb := below_alloc W (.cells #[.int .i64 f.s, .int .i64 f.k, .int .u8 f.a] 74)
    exact hK _ _ (keepsB hb) (Keep2.turn (S := fun _ => False) (Turn.of_below hb) (by omega) (by omega) (by simp) (by simp)) (HI.own W.heap.size (by have := HI'.out.tn.size; omega) pre W _ none HI'.out (grown_of_below hb) (fun _ e => by cases e)) ⟨W.heap.size, lt_of_block HI'.out.b1, heap_alloc_new _ _, rfl⟩
  case body =>
    rintro l pre f a' W hsp hI' ⟨B, hB1, hB2, rfl⟩ hlt hWs
    rw [Nat.add_zero] at hWs
    have hmem : f ∈ allK L (fun _ => L) L.length := hsp.subset (by simp)
    obtain ⟨i, pre', hi1, hi2, hi3⟩ := mem_allK _ _ hmem
    have hfa := begF_a L HBO.out i
    rw [← hi3] at hfa
    obtain ⟨fs, fk, fa⟩ := f
    simp only at hB2 hfa
    have q0 : W.cell? ⟨w.heap.size, 0, none⟩ = some (.pointer (some ⟨b, 0, none⟩)) := by simp [World.cell?, hI'.b0]
    have q1 : W.cell? ⟨B, 0, none⟩ = some (.int .i64 fs) := by simp [World.cell?, hB2]
    have q2 : W.cell? ⟨B, 1, none⟩ = some (.int .i64 fk) := by simp [World.cell?, hB2]
    have q3 : W.cell? ⟨B, 2, none⟩ = some (.int .u8 fa) := by simp [World.cell?, hB2]
    have hblt := lt_of_block hB2
    have HB2 := Lib.hid hB2
    have HI' := Lib.hid hI'
    clear hsp hI' hmem hi3 hlt hB2
    by_cases hk : 0 < fk
    · cases hpr : Attr.prot fa with
      | true =>
        have HPR := Lib.hid hpr
        clear hpr
        gi_wp2_with (refine ⟨trivial, ?_⟩; gi_at_call 81; (with_reducible refine (CallsIn.inRound l (callsIn_wide.2 (protected_k fa _ hfa.1 hfa.2 true HPR.out))).mono ?_); rintro e w' ⟨rfl, rfl⟩)
        refine ⟨KeepsFrom.refl _ _, Keep2.refl _ _ _, ⟨HI'.out.pl, HI'.out.b0, HI'.out.b1, HI'.out.tn, ?_⟩⟩
        intro y hy
        rcases List.mem_append.1 hy with hy | hy
        · exact HI'.out.no y hy
        · obtain rfl : y = ⟨fs, fk, fa⟩ := by simpa using hy
          simp [goodF, HPR.out]
      | false =>
        have HPR := Lib.hid hpr
        clear hpr
        gi_wp2_with (refine ⟨trivial, ?_⟩; first
          | (gi_at_call 81; (with_reducible refine (CallsIn.inRound l (callsIn_wide.2 (protected_k fa _ hfa.1 hfa.2 false HPR.out))).mono ?_); rintro e w' ⟨rfl, rfl⟩)
          | (gi_at_call 113; (with_reducible refine (CallsIn.inRound l (callsIn_wide.2 (ffirst_any HI'.out.pl ⟨fs, fk, fa⟩))).mono ?_); rintro e W3 ⟨rfl, hb3⟩
             have hI3 := HI.own W.heap.size (by have := HI'.out.tn.size; omega) pre W W3 none HI'.out (grown_of_below hb3) (fun _ e => by cases e)
             have HI3 := Lib.hid hI3
             have r2 : W3.cell? ⟨w.heap.size + 1, 0, none⟩ = some (.int .i64 0) := by simp [World.cell?, hI3.b1]
             have r3 : W3.frozen? ⟨w.heap.size + 1, 0, none⟩ = false := by simp [World.frozen?, hI3.b1]
             have KB := Lib.hid hb3
             clear hI3 hb3))
        have ts := turn_set W3 (w.heap.size + 1) 0 (.int .i64 (mv L.length fs 1))
        have t3 : Turn (At (w.heap.size + 1)) W W3 := Turn.of_below KB.out
        refine ⟨keeps_of_turn (t3.trans ts) (fun k hk => by unfold At at hk; omega), rfl, ⟨⟨pre, ⟨fs, fk, fa⟩, rfl, HI'.out.no, by simp [goodF, HPR.out, hk], ?_⟩, ?_⟩⟩
        · rw [heap_set HI3.out.b1 0 _]; simp
        · have ht2 : Turn (fun k => w.heap.size ≤ k) w (W3.setCell ⟨w.heap.size + 1, 0, none⟩ (.int .i64 (mv L.length fs 1))) := (HI3.out.tn.mono fun k hk => hk.elim).trans (ts.mono fun k hk => by rw [show k = w.heap.size + 1 from hk]; omega)
          exact ⟨ht2.os, ht2.tape, ht2.output, ht2.size, fun k hk hn => ht2.block k hk (by omega)⟩
    · gi_wp2
      refine ⟨trivial, ?_⟩
      gi_wp2
      refine ⟨KeepsFrom.refl _ _, Keep2.refl _ _ _, ⟨HI'.out.pl, HI'.out.b0, HI'.out.b1, HI'.out.tn, ?_⟩⟩
      intro y hy
      rcases List.mem_append.1 hy with hy | hy
      · exact HI'.out.no y hy
      · obtain rfl : y = ⟨fs, fk, fa⟩ := by simpa using hy
        simp [goodF]; intro h; omega
  case done =>
    rintro D ys W hD rfl hI' hK
    have r2 : W.cell? ⟨w.heap.size + 1, 0, none⟩ = some (.int .i64 0) := by simp [World.cell?, hI'.b1]
    have r3 : W.frozen? ⟨w.heap.size + 1, 0, none⟩ = false := by simp [World.frozen?, hI'.b1]
    have HI' := Lib.hid hI'
    clear hI'
    gi_wp2
    refine ⟨by simp, .inl ⟨_, _, rfl, run_takeDeferred (by rw [Below.heap_setCell _ _ _ _ (by show D ≠ w.heap.size + 1; omega)]; exact hK), ?_⟩⟩
    refine ⟨_, results_cell_int rfl _ _ (w.heap.size + 1) 0 (0, 0) rfl ?_, ?_⟩
    · rw [World.putObj_heap_other (by omega), heap_set HI'.out.b1 0 _]; simp
    · refine ⟨by rw [home_none HI'.out.no], ?_⟩
      have ts := turn_set W (w.heap.size + 1) 0 (.int .i64 0)
      have t2 : Turn (fun k => w.heap.size ≤ k) w (W.setCell ⟨w.heap.size + 1, 0, none⟩ (.int .i64 0)) := (HI'.out.tn.mono fun k hk => hk.elim).trans (ts.mono fun k hk => by rw [show k = w.heap.size + 1 from hk]; omega)
      have t3 := t2.grown (grownBy_putObj' _ D (.deferred none)) (fun k e => by cases e; left; omega)
      exact t3.below (Nat.le_refl _) (fun k hk => hk)
  case stop =>
    rintro D c' pre W hD hpre ⟨rfl, hx⟩ hK
    have HX' := Lib.hid hx
    clear hx
    gi_wp2
    obtain ⟨⟨pre', f, rfl, h1, h2, h3⟩, h4⟩ := HX'.out
    refine ⟨by simp, .inl ⟨_, _, rfl, run_takeDeferred hK, ?_⟩⟩
    refine ⟨_, results_cell_int rfl _ _ (w.heap.size + 1) (mv L.length f.s 1) (0, 0) rfl ?_, ?_⟩
    · rw [World.putObj_heap_other (by omega)]; exact h3
    · refine ⟨by rw [home_hit hpre h1 h2], ?_⟩
      have t3 := h4.grown (grownBy_putObj' _ D (.deferred none)) (fun k e => by cases e; left; omega)
      exact t3.below (Nat.le_refl _) (fun k hk => hk.elim)
theorem home_any {w : World} {b g : Nat} {r c cur : Int} {L : List Cl} (h : PlAt w b g r c cur L) (hbo : BoL L) :
    Calls Try.prog 77 #[.pointer (some ⟨b, 0, none⟩)] w fun e W => e = .returned (.int .i64 (homeL L)) ∧ Below w.heap.size w W := callsIn_wide.1 (home_in h hbo)
end Go.Proofs.Ytlcjiffnmpkndaa.Pl
