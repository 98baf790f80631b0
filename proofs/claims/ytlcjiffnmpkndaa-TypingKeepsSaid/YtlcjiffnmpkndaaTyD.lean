/-
  Contract of firstEmpty of package typing.
-/
import Derived.Test.YtlcjiffnmpkndaaTyC
namespace Go.Proofs.Ytlcjiffnmpkndaa.Pl
open Go.RowKit Go.Shelf Base
attribute [local go_sem] Oper.semAt_some
set_option linter.unusedVariables false
set_option linter.unusedSimpArgs false

/-- Is a place's cell empty? -/
def emL (L : List Cl) (p : Int) : Bool := ((atL L p).b == 0) && !(atL L p).ge
def fempL (L : List Cl) (a : Int) : Option Int := (rowL L a).find? (emL L)
theorem results_cell2 {fn : Func} {p q : Tmp} (h : fn.results = #[.cell p 3, .cell q 4]) (tmps : Array Value) (w : World) (g g' : Nat) (x : Int) (y : Bool) (fr fr' : Nat × Nat)
    (hp : tmps.getD p undef = .pointer (some ⟨g, 0, none⟩)) (hq : tmps.getD q undef = .pointer (some ⟨g', 0, none⟩)) (hg : w.heap[g]? = some (.cells #[.int .i64 x] 3 fr)) (hg' : w.heap[g']? = some (.cells #[.bool y] 4 fr')) : (results fn tmps).run Try.prog w = .ok (.tuple #[.int .i64 x, .bool y]) w := by
  have hp' : tmps[p]?.getD undef = .pointer (some ⟨g, 0, none⟩) := by simpa using hp
  have hq' : tmps[q]?.getD undef = .pointer (some ⟨g', 0, none⟩) := by simpa using hq
  have hc : w.cell? ⟨g, 0, none⟩ = some (.int .i64 x) := by simp [World.cell?, hg]
  have hc' : w.cell? ⟨g', 0, none⟩ = some (.bool y) := by simp [World.cell?, hg']
  simp [results, h, hp', hq', asAddr, go_sem, hc, hc']
set_option maxHeartbeats 800000 in
theorem em_any {w : World} {b g bp : Nat} {r c cur : Int} {L : List Cl} (h : PlAt w b g r c cur L) (hp : w.cell? ⟨bp, 0, none⟩ = some (.pointer (some ⟨b, 0, none⟩))) (x : Int) :
    Calls Try.prog 143 #[.int .i64 x, .pointer (some ⟨bp, 0, none⟩)] w fun e W => e = .returned (.bool (emL L x)) ∧ Below w.heap.size w W := by
  obtain ⟨⟨yb, yg, ys, yl, yc⟩, hy⟩ : ∃ y, y = atL L x := ⟨_, rfl⟩
  have he : emL L x = ((yb == 0) && !yg) := by unfold emL; rw [← hy]
  rw [he]
  have HY := Lib.hid hy
  have HH := Lib.hid h
  clear h hy he
  have hyb : (yb == 0) = true ∨ (yb == 0) = false := by cases (yb == 0) <;> simp
  rcases hyb with hyb | hyb
  all_goals
    rw [hyb]
    go_enter Try.func143, Try.ntmps143
    go_wp2_with (go_at_call 40; (with_reducible refine (at_any HH.out x).mono ?_); rintro e w1 ⟨he, hb1⟩; rw [← HY.out] at he; simp only [Cl.val] at he; subst he; have B1 := Lib.hid (hb1.alloc hb1.size (.cells #[.int .u8 yb, .bool yg, .bool ys, .int .u8 yl, .int .u8 yc] 58)); clear hb1)
    go_ret
    exact ⟨by simp, B1.out⟩
structure FeI (w : World) (b g : Nat) (r c cur : Int) (L : List Cl) (pre : List Int) (W : World) : Prop where
  pl : PlAt W b g r c cur L
  lb : b < w.heap.size ∧ g < w.heap.size
  b0 : W.heap[w.heap.size]? = some (.cells #[.pointer (some ⟨b, 0, none⟩)] 27 (0, 0))
  b1 : W.heap[w.heap.size + 1]? = some (.cells #[.int .i64 0] 3 (0, 0))
  b2 : W.heap[w.heap.size + 2]? = some (.cells #[.bool false] 4 (0, 0))
  b3 : W.heap[w.heap.size + 3]? = some (.cells #[.func (.func 143) #[] #[.pointer (some ⟨w.heap.size, 0, none⟩)]] 49 (0, 0))
  tn : Turn (fun _ => False) w W
  no : ∀ y ∈ pre, emL L y = false
structure FeX (w : World) (L : List Cl) (pre : List Int) (W : World) : Prop where
  hit : ∃ pre' x, pre = pre' ++ [x] ∧ (∀ y ∈ pre', emL L y = false) ∧ emL L x = true ∧ W.heap[w.heap.size + 1]? = some (.cells #[.int .i64 x] 3 (0, 0)) ∧ W.heap[w.heap.size + 2]? = some (.cells #[.bool true] 4 (0, 0))
  tn : Turn (fun _ => False) w W
section
variable {w : World} {b g : Nat} {r c cur : Int} {L : List Cl} {pre : List Int} {W W' : World}
theorem turn_low {B : Nat} {X Y : World} (h : Turn (fun _ => False) w X) (t : Turn (fun k => B ≤ k) X Y) (hB : w.heap.size ≤ B) : Turn (fun _ => False) w Y :=
  ⟨t.os.trans h.os, t.tape.trans h.tape, t.output.trans h.output, Nat.le_trans h.size t.size, fun k hk _ => (t.block k (Nat.lt_of_lt_of_le hk h.size) (by omega)).trans (h.block k hk id)⟩
theorem FeI.low {B : Nat} (hB : w.heap.size + 4 ≤ B) : LowFrom B (FeI w b g r c cur L) := by
  intro s X Y h t
  obtain ⟨l1, l2⟩ := h.lb
  exact ⟨h.pl.turn t (by omega) (by omega), h.lb, (t.block _ (lt_of_block h.b0) (by omega)).trans h.b0, (t.block _ (lt_of_block h.b1) (by omega)).trans h.b1, (t.block _ (lt_of_block h.b2) (by omega)).trans h.b2, (t.block _ (lt_of_block h.b3) (by omega)).trans h.b3, turn_low h.tn t (by omega), h.no⟩
theorem FeX.low {B : Nat} (hB : w.heap.size + 4 ≤ B) : LowFrom B (FeX w L) := by
  rintro s X Y ⟨⟨p, x, h1, h2, h3, h4, h5⟩, h6⟩ t
  exact ⟨⟨p, x, h1, h2, h3, (t.block _ (lt_of_block h4) (by omega)).trans h4, (t.block _ (lt_of_block h5) (by omega)).trans h5⟩, turn_low h6 t (by omega)⟩
end
theorem femp_hit {L : List Cl} {xs pre : List Int} {x : Int} (hp : pre ++ [x] <+: xs) (hno : ∀ y ∈ pre, emL L y = false) (hx : emL L x = true) : xs.find? (emL L) = some x := by
  obtain ⟨t, rfl⟩ := hp
  rw [List.append_assoc, List.find?_append, List.find?_eq_none.2 (fun y hy => by simp [hno y hy])]
  simp [List.find?, hx]
theorem femp_none {L : List Cl} {xs : List Int} (hno : ∀ y ∈ xs, emL L y = false) : xs.find? (emL L) = none := List.find?_eq_none.2 (fun y hy => by simp [hno y hy])
set_option maxRecDepth 100000 in
set_option maxHeartbeats 4000000 in
theorem femp_in {w : World} {b g : Nat} {r c cur a : Int} {L : List Cl} (h : PlAt w b g r c cur L) (hbo : BoL L) (hk : (wholeF L a).k ≤ 9223372036854775807) :
    CallsIn Fence.wide 4 Try.prog 119 #[.pointer (some ⟨b, 0, none⟩), .int .i64 a] w fun e W => e = .returned (.tuple #[.int .i64 ((fempL L a).getD 0), .bool (fempL L a).isSome]) ∧ Below w.heap.size w W := by
  obtain ⟨W0, hW0⟩ : ∃ W0, W0 = (((w.alloc (.cells #[.pointer (some ⟨b, 0, none⟩)] 27)).alloc (.cells #[.int .i64 0] 3)).alloc (.cells #[.bool false] 4)).alloc (.cells #[.func (.func 143) #[] #[.pointer (some ⟨w.heap.size, 0, none⟩)]] 49) := ⟨_, rfl⟩
  have hbw : Below w.heap.size w W0 := by rw [hW0]; exact (((below_alloc w _).alloc (by simp) _).alloc (by simp; omega) _).alloc (by simp; omega) _
  have hsz0 : W0.heap.size = w.heap.size + 4 := by rw [hW0]; simp
  have h0 : FeI w b g r c cur L [] W0 := by
    have e0 := heap_alloc_new w (.cells #[.pointer (some ⟨b, 0, none⟩)] 27)
    have e1 := heap_alloc_new (w.alloc (.cells #[.pointer (some ⟨b, 0, none⟩)] 27)) (.cells #[.int .i64 0] 3)
    have e2 := heap_alloc_new ((w.alloc (.cells #[.pointer (some ⟨b, 0, none⟩)] 27)).alloc (.cells #[.int .i64 0] 3)) (.cells #[.bool false] 4)
    have e3 := heap_alloc_new (((w.alloc (.cells #[.pointer (some ⟨b, 0, none⟩)] 27)).alloc (.cells #[.int .i64 0] 3)).alloc (.cells #[.bool false] 4)) (.cells #[.func (.func 143) #[] #[.pointer (some ⟨w.heap.size, 0, none⟩)]] 49)
    simp only [World.size_alloc] at e1 e2 e3
    refine ⟨h.below hbw, ⟨h.lt, h.ltg⟩, ?_, ?_, ?_, ?_, Turn.of_below hbw, by simp⟩
    · rw [hW0, Below.heap_alloc _ _ _ (by simp only [World.size_alloc]; omega), Below.heap_alloc _ _ _ (by simp only [World.size_alloc]; omega), Below.heap_alloc _ _ _ (by simp only [World.size_alloc]; omega)]; exact e0
    · rw [hW0, Below.heap_alloc _ _ _ (by simp only [World.size_alloc]; omega), Below.heap_alloc _ _ _ (by simp only [World.size_alloc]; omega)]; exact e1
    · rw [hW0, Below.heap_alloc _ _ _ (by simp only [World.size_alloc]; omega)]; exact e2
    · rw [hW0]; exact e3
  have p0 : W0.cell? ⟨w.heap.size, 0, none⟩ = some (.pointer (some ⟨b, 0, none⟩)) := by simp [World.cell?, h0.b0]
  have HW0 := Lib.hid hW0.symm
  have H0 := Lib.hid h0
  have HBO := Lib.hid hbo
  have HK := Lib.hid hk
  have HSZ := Lib.hid hsz0
  clear hW0 h h0 hbo hk
  refine callsIn_of_wp_marks Try.func119 rfl trivial ?_ rfl
  simp only [Try.ntmps119, List.size_toArray, List.length_cons, List.length_nil, Nat.reduceAdd, Nat.reduceSub, Array.replicate_succ, Array.replicate_zero, List.push_toArray, List.append_toArray, List.nil_append, List.cons_append]
  have hst : ∀ (w' : World) (ad : Addr) (m : Mode), (store ad (.func (.func 143) #[] #[.pointer (some ⟨w.heap.size, 0, none⟩)]) m).run Try.prog w' = match w'.cell? ad with
      | some _ => if w'.frozen? ad then .halt (.unsupported (.unsafePointer "a write to bytes that a string shares")) w' else .ok () (w'.setCell ad (.func (.func 143) #[] #[.pointer (some ⟨w.heap.size, 0, none⟩)]))
      | none => match w'.farStore Try.prog ad (.func (.func 143) #[] #[.pointer (some ⟨w.heap.size, 0, none⟩)]) (m == .atomic) with
        | .ok (w'', _) => .ok () w''
        | .error h => .halt h w' := fun w' ad m => run_store Try.prog w' ad _ m rfl
  gi_upto_region 2 with fail
  clear hst
  rw [HW0.out]
  gi_wp2_with fail
  refine ⟨trivial, ?_⟩
  refine (callsIn_wide.2 (row_any W0 b a)).mono ?_
  rintro e W1 ⟨rfl, hI, hb1, hs1⟩
  have h1 : FeI w b g r c cur L [] W1 := FeI.low (B := W0.heap.size) (by omega) [] W0 W1 H0.out (low_below hb1)
  have H1 := Lib.hid h1
  have hsq := row_seq (w := W1) (g := g) (r := r) (c := c) (cur := cur) hI HBO.out HK.out
  rw [hsz0] at hsq
  have HSQ := Lib.hid hsq
  rw [hsz0] at hs1
  have hlb := h1.lb
  clear hI hsq hb1 p0 h1
  gi_wp2_with fail
  refine range_low (α := Int) rfl (by omega) (gf := 123) rfl trivial (enters_of Try.func123 (by kernel_rfl) rfl) HSQ.out KR.trans ?hKb (Below.refl _ _) (fun _ => rfl)
    (FeI w b g r c cur L) (fun pre W h => ⟨fun _ => h.pl, h.pl.n⟩) (fun c' pre W => c' = .ret ∧ FeX w L pre W) (FeI.low (by omega)) (fun c' s X Y h t => ⟨h.1, FeX.low (by omega) s X Y h.2 t⟩) H1.out
    (fun p a' _ => a' = { tmps := #[.pointer (some ⟨b, 0, none⟩), .int .i64 a, .pointer (some ⟨w.heap.size, 0, none⟩), undef, .pointer (some ⟨w.heap.size + 1, 0, none⟩), .pointer (some ⟨w.heap.size + 2, 0, none⟩), .pointer (some ⟨w.heap.size + 3, 0, none⟩), .int .i64 p, .func (.func 143) #[] #[.pointer (some ⟨w.heap.size, 0, none⟩)], .pointer (some ⟨b, 0, none⟩), .int .i64 a, .func (.func 123) #[] #[.pointer (some ⟨w.heap.size + 4, 0, none⟩), .pointer (some ⟨w.heap.size + 4 + 1, 0, none⟩)], .int .i64 p, undef, undef, undef, undef], defers := [] })
    (fun _ _ _ _ _ _ h _ _ => h) ?assign ?body ?done ?stop
  case hKb =>
    intro W o o' ho hc
    have := lt_of_block ho
    exact KR.put W o' (by omega) (by omega) (by omega) (by omega) (by omega)
  case assign =>
    intro l pre p W K hsp hWs hI' hK
    gi_wp2
    exact hK _ _ (KeepsFrom.refl _ _) (KR.refl _ _ _ _) hI' rfl
  case body =>
    rintro l pre x a' W hsp hI' rfl hlt hWs
    clear hsp
    rw [Nat.add_zero] at hWs
    have q0 : W.cell? ⟨w.heap.size, 0, none⟩ = some (.pointer (some ⟨b, 0, none⟩)) := by simp [World.cell?, hI'.b0]
    have q3 : W.cell? ⟨w.heap.size + 3, 0, none⟩ = some (.func (.func 143) #[] #[.pointer (some ⟨w.heap.size, 0, none⟩)]) := by simp [World.cell?, hI'.b3]
    have HI' := Lib.hid hI'
    clear hI' hlt
    gi_wp2_with fail
    refine ⟨trivial, ?_⟩
    refine (CallsIn.inRound l (callsIn_wide.2 (em_any HI'.out.pl q0 x))).mono ?_
    rintro e W3 ⟨he, hb3⟩
    obtain ⟨y, hy⟩ : ∃ y, y = emL L x := ⟨_, rfl⟩
    rw [← hy] at he
    have HY := Lib.hid hy
    clear hy
    subst he
    have hI3 := FeI.low (B := W.heap.size) (by omega) pre W W3 HI'.out (low_below hb3)
    have HI3 := Lib.hid hI3
    have r1 : W3.cell? ⟨w.heap.size + 1, 0, none⟩ = some (.int .i64 0) := by simp [World.cell?, hI3.b1]
    have r1f : W3.frozen? ⟨w.heap.size + 1, 0, none⟩ = false := by simp [World.frozen?, hI3.b1]
    have r2 : W3.cell? ⟨w.heap.size + 2, 0, none⟩ = some (.bool false) := by simp [World.cell?, hI3.b2]
    have r2f : W3.frozen? ⟨w.heap.size + 2, 0, none⟩ = false := by simp [World.frozen?, hI3.b2]
    have hb3s := hb3.size
    have KB := Lib.hid hb3
    clear hI3 hb3 q0 q3
    cases y with
    | true =>
      gi_wp2
      have ts := (turn_set W3 (w.heap.size + 1) 0 (.int .i64 x)).mono (S' := fun k => k = w.heap.size + 1 ∨ k = w.heap.size + 2) (fun k hk => .inl hk)
      have ts2 := (turn_set (W3.setCell ⟨w.heap.size + 1, 0, none⟩ (.int .i64 x)) (w.heap.size + 2) 0 (.bool true)).mono (S' := fun k => k = w.heap.size + 1 ∨ k = w.heap.size + 2) (fun k hk => .inr hk)
      have t3 : Turn (fun k => k = w.heap.size + 1 ∨ k = w.heap.size + 2) W W3 := Turn.of_below KB.out
      have c1 : (W3.setCell ⟨w.heap.size + 1, 0, none⟩ (.int .i64 x)).heap[w.heap.size + 1]? = some (.cells #[.int .i64 x] 3 (0, 0)) := by rw [heap_set HI3.out.b1 0 _]; simp
      have c2 : (W3.setCell ⟨w.heap.size + 1, 0, none⟩ (.int .i64 x)).heap[w.heap.size + 2]? = some (.cells #[.bool false] 4 (0, 0)) := (Below.heap_setCell _ _ _ _ (by show w.heap.size + 2 ≠ w.heap.size + 1; omega)).trans HI3.out.b2
      refine ⟨keeps_of_turn (t3.trans (ts.trans ts2)) (fun k hk => by rcases hk with hk | hk <;> omega), rfl, ⟨⟨pre, x, rfl, HI'.out.no, HY.out.symm, ?_, ?_⟩, ?_⟩⟩
      · rw [Below.heap_setCell _ _ _ _ (by show w.heap.size + 1 ≠ w.heap.size + 2; omega)]; exact c1
      · rw [heap_set c2 0 _]; simp
      · have ht2 : Turn (fun k => w.heap.size ≤ k) w ((W3.setCell ⟨w.heap.size + 1, 0, none⟩ (.int .i64 x)).setCell ⟨w.heap.size + 2, 0, none⟩ (.bool true)) := (HI3.out.tn.mono fun k hk => hk.elim).trans ((ts.trans ts2).mono fun k hk => by rcases hk with hk | hk <;> omega)
        exact ⟨ht2.os, ht2.tape, ht2.output, ht2.size, fun k hk hn => ht2.block k hk (by omega)⟩
    | false =>
      gi_wp2
      refine ⟨keepsB KB.out, KR.turn (S := fun _ => False) (Turn.of_below KB.out) (fun k hk => hk.elim) ⟨by omega, id⟩ ⟨by omega, id⟩, ⟨HI3.out.pl, HI3.out.lb, HI3.out.b0, HI3.out.b1, HI3.out.b2, HI3.out.b3, HI3.out.tn, ?_⟩⟩
      intro y hy
      rcases List.mem_append.1 hy with hy | hy
      · exact HI'.out.no y hy
      · obtain rfl : y = x := by simpa using hy
        exact HY.out.symm
  case done =>
    rintro D ys W hD rfl hI' hK
    have r1 : W.cell? ⟨w.heap.size + 1, 0, none⟩ = some (.int .i64 0) := by simp [World.cell?, hI'.b1]
    have r1f : W.frozen? ⟨w.heap.size + 1, 0, none⟩ = false := by simp [World.frozen?, hI'.b1]
    have r2 : W.cell? ⟨w.heap.size + 2, 0, none⟩ = some (.bool false) := by simp [World.cell?, hI'.b2]
    have r2f : W.frozen? ⟨w.heap.size + 2, 0, none⟩ = false := by simp [World.frozen?, hI'.b2]
    have HI' := Lib.hid hI'
    clear hI'
    gi_wp2
    have c1 : (W.setCell ⟨w.heap.size + 1, 0, none⟩ (.int .i64 0)).heap[w.heap.size + 1]? = some (.cells #[.int .i64 0] 3 (0, 0)) := by rw [heap_set HI'.out.b1 0 _]; simp
    have c2 : (W.setCell ⟨w.heap.size + 1, 0, none⟩ (.int .i64 0)).heap[w.heap.size + 2]? = some (.cells #[.bool false] 4 (0, 0)) := (Below.heap_setCell _ _ _ _ (by show w.heap.size + 2 ≠ w.heap.size + 1; omega)).trans HI'.out.b2
    have hKD : ((W.setCell ⟨w.heap.size + 1, 0, none⟩ (.int .i64 0)).setCell ⟨w.heap.size + 2, 0, none⟩ (.bool false)).heap[D]? = some (.deferred (some [])) := by
      rw [Below.heap_setCell _ _ _ _ (by show D ≠ w.heap.size + 2; omega), Below.heap_setCell _ _ _ _ (by show D ≠ w.heap.size + 1; omega)]; exact hK
    refine ⟨by simp, .inl ⟨_, _, rfl, run_takeDeferred hKD, ?_⟩⟩
    refine ⟨_, results_cell2 rfl _ _ (w.heap.size + 1) (w.heap.size + 2) 0 false (0, 0) (0, 0) rfl rfl ?_ ?_, ?_⟩
    · rw [World.putObj_heap_other (by omega), Below.heap_setCell _ _ _ _ (by show w.heap.size + 1 ≠ w.heap.size + 2; omega)]; exact c1
    · rw [World.putObj_heap_other (by omega), heap_set c2 0 _]; simp
    · refine ⟨by unfold fempL; rw [femp_none HI'.out.no]; rfl, ?_⟩
      have ts := (turn_set W (w.heap.size + 1) 0 (.int .i64 0)).mono (S' := fun k => w.heap.size ≤ k) (fun k hk => by rw [show k = w.heap.size + 1 from hk]; omega)
      have ts2 := (turn_set (W.setCell ⟨w.heap.size + 1, 0, none⟩ (.int .i64 0)) (w.heap.size + 2) 0 (.bool false)).mono (S' := fun k => w.heap.size ≤ k) (fun k hk => by rw [show k = w.heap.size + 2 from hk]; omega)
      have t2 := (HI'.out.tn.mono (S' := fun k => w.heap.size ≤ k) fun k hk => hk.elim).trans (ts.trans ts2)
      have t3 := t2.grown (grownBy_putObj' _ D (.deferred none)) (fun k e => by cases e; left; omega)
      exact t3.below (Nat.le_refl _) (fun k hk => hk)
  case stop =>
    rintro D c' pre W hD hpre ⟨rfl, hx⟩ hK
    have HX := Lib.hid hx
    clear hx
    gi_wp2
    obtain ⟨⟨pre', x, rfl, h1, h2, h3, h4⟩, h5⟩ := HX.out
    refine ⟨by simp, .inl ⟨_, _, rfl, run_takeDeferred hK, ?_⟩⟩
    refine ⟨_, results_cell2 rfl _ _ (w.heap.size + 1) (w.heap.size + 2) x true (0, 0) (0, 0) rfl rfl ?_ ?_, ?_⟩
    · rw [World.putObj_heap_other (by omega)]; exact h3
    · rw [World.putObj_heap_other (by omega)]; exact h4
    · refine ⟨by unfold fempL; rw [femp_hit hpre h1 h2]; rfl, ?_⟩
      have t3 := h5.grown (grownBy_putObj' _ D (.deferred none)) (fun k e => by cases e; left; omega)
      exact t3.below (Nat.le_refl _) (fun k hk => hk.elim)
theorem femp_any {w : World} {b g : Nat} {r c cur a : Int} {L : List Cl} (h : PlAt w b g r c cur L) (hbo : BoL L) (hk : (wholeF L a).k ≤ 9223372036854775807) :
    Calls Try.prog 119 #[.pointer (some ⟨b, 0, none⟩), .int .i64 a] w fun e W => e = .returned (.tuple #[.int .i64 ((fempL L a).getD 0), .bool (fempL L a).isSome]) ∧ Below w.heap.size w W := callsIn_wide.1 (femp_in h hbo hk)
end Go.Proofs.Ytlcjiffnmpkndaa.Pl
