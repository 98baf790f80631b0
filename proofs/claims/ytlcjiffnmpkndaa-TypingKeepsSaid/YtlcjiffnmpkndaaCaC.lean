/-
  Contracts of package caret: the first open field's first place of places, and from a place on.
-/
import Derived.Test.YtlcjiffnmpkndaaCaB
namespace Go.Proofs.Ytlcjiffnmpkndaa.Pl
open Go.RowKit Go.Shelf Base
attribute [local go_sem] Oper.semAt_some
set_option linter.unusedVariables false
set_option linter.unusedSimpArgs false

structure EI (w : World) (b g : Nat) (r c cur : Int) (L : List Cl) (pre : List Int) (W : World) : Prop where
  pl : PlAt W b g r c cur L
  b0 : W.heap[w.heap.size]? = some (.cells #[.pointer (some ⟨b, 0, none⟩)] 27 (0, 0))
  b1 : W.heap[w.heap.size + 1]? = some (.cells #[.int .i64 0] 3 (0, 0))
  tn : Turn (fun _ => False) w W
  no : ∀ y ∈ pre, goodE L y = false
/-- Where it was broken off: the place stands in the result's cell. -/
structure EX (w : World) (L : List Cl) (pre : List Int) (W : World) : Prop where
  hit : ∃ pre' x, pre = pre' ++ [x] ∧ (∀ y ∈ pre', goodE L y = false) ∧ goodE L x = true ∧ W.heap[w.heap.size + 1]? = some (.cells #[.int .i64 (mv L.length x 1)] 3 (0, 0))
  tn : Turn (fun _ => False) w W
section
variable {w : World} {b g : Nat} {r c cur : Int} {L : List Cl} {pre : List Int} {W W' : World}
theorem EI.own (B : Nat) (hB : w.heap.size ≤ B) : OwnFrom B (EI w b g r c cur L) := by
  intro s X Y row h hg hr
  have hr' : ∀ r, row = some r → ∃ o : Obj, X.heap[r]? = some o ∧ o.isCells = false := fun r e => (hr r e).2
  exact ⟨h.pl.grown hg hr', (cells_kept h.b0 hg hr').trans h.b0, (cells_kept h.b1 hg hr').trans h.b1, h.tn.grown hg (fun k e => .inl (by have := (hr k e).1; omega)), h.no⟩
theorem EX.own (B : Nat) (hB : w.heap.size ≤ B) : OwnFrom B (EX w L) := by
  intro s X Y row h hg hr
  have hr' : ∀ r, row = some r → ∃ o : Obj, X.heap[r]? = some o ∧ o.isCells = false := fun r e => (hr r e).2
  obtain ⟨⟨p, x, h1, h2, h3, h4⟩, h5⟩ := h
  exact ⟨⟨p, x, h1, h2, h3, (cells_kept h4 hg hr').trans h4⟩, h5.grown hg (fun k e => .inl (by have := (hr k e).1; omega))⟩
end
theorem ehit {L : List Cl} {xs pre : List Int} {x : Int} (hp : pre ++ [x] <+: xs) (hno : ∀ y ∈ pre, goodE L y = false) (hx : goodE L x = true) : firstEL L xs = mv L.length x 1 := by
  obtain ⟨t, rfl⟩ := hp
  unfold firstEL
  rw [List.append_assoc, List.find?_append, List.find?_eq_none.2 (fun y hy => by simp [hno y hy])]
  simp [List.find?, hx]
theorem enone {L : List Cl} {xs : List Int} (hno : ∀ y ∈ xs, goodE L y = false) : firstEL L xs = 0 := by
  unfold firstEL
  rw [List.find?_eq_none.2 (fun y hy => by simp [hno y hy])]
/-- What a round must leave alone, however it is said. -/
structure KpOk (w : World) (Kp : World → World → Prop) : Prop where
  kt : ∀ {A B C : World}, Kp A B → Kp B C → Kp A C
  kr : ∀ A, Kp A A
  kput : ∀ (W : World) (k : Nat) (o' : Obj), w.heap.size ≤ k → w.heap.size ≤ W.heap.size → Kp W (W.putObj k o')
  kb : ∀ (W W' : World), w.heap.size ≤ W.heap.size → Below W.heap.size W W' → Kp W W'
theorem kpOk2 {w : World} {p q : Nat} (h : p < w.heap.size ∧ q < w.heap.size) : KpOk w (Keep2 p q) :=
  ⟨Keep2.trans, Keep2.refl p q, fun W k o' hk hw => Keep2.put W o' (by omega) (by omega) (by omega) (by omega),
    fun W W' hw hb => Keep2.turn (S := fun _ => False) (Turn.of_below hb) (by omega) (by omega) (by simp) (by simp)⟩
theorem kpOk4 {w : World} {p q u v : Nat} (h : p < w.heap.size ∧ q < w.heap.size ∧ u < w.heap.size ∧ v < w.heap.size) : KpOk w (Keep4 p q u v) :=
  ⟨Keep4.trans, Keep4.refl p q u v,
    fun W k o' hk hw => ⟨(grownBy_putObj' W k o').size, fun j hj => (grownBy_putObj' W k o').block j (by rcases hj with rfl | rfl | rfl | rfl <;> omega) (fun e => by cases e; rcases hj with rfl | rfl | rfl | rfl <;> omega)⟩,
    fun W W' hw hb => ⟨hb.size, fun j hj => hb.block j (by rcases hj with rfl | rfl | rfl | rfl <;> omega)⟩⟩
set_option maxRecDepth 100000 in
set_option maxHeartbeats 2000000 in
theorem firstEntry_any {w : World} {b g : Nat} {r c cur : Int} {L : List Cl} (h : PlAt w b g r c cur L) (hbo : BoL L) {gf : Nat} {lb : Array Value} {xs : List Int} {N : Nat} {Kp : World → World → Prop} {Ip : List Int → World → Prop} (eg : ∀ args w, (callFunc gf args).run Try.prog w = .ok (.enter gf args) w) (hkp : KpOk w Kp)
    (hIp : ∀ pre W, PlAt W b g r c cur L → Ip pre W)
    (hseq : SeqP Fence.wide 2 Try.prog gf lb (fun x : Int => #[Value.int .i64 x]) (fun _ => Kp) Ip (fun ys => ys = xs) (fun pre => pre <+: xs) N 0 w) :
    CallsIn Fence.wide 3 Try.prog 74 #[.pointer (some ⟨b, 0, none⟩), .func (.func gf) #[] lb] w fun e W => e = .returned (.int .i64 (firstEL L xs)) ∧ Below w.heap.size w W := by
  obtain ⟨W0, hW0⟩ : ∃ W0, W0 = (w.alloc (.cells #[.pointer (some ⟨b, 0, none⟩)] 27)).alloc (.cells #[.int .i64 0] 3) := ⟨_, rfl⟩
  have h0 : EI w b g r c cur L [] W0 := by
    rw [hW0]
    have e0 := heap_alloc_new w (.cells #[.pointer (some ⟨b, 0, none⟩)] 27)
    have e1 := heap_alloc_new (w.alloc (.cells #[.pointer (some ⟨b, 0, none⟩)] 27)) (.cells #[.int .i64 0] 3)
    simp only [World.size_alloc] at e1
    refine ⟨(h.alloc _).alloc _, ?_, e1, ?_, by simp⟩
    · rw [Below.heap_alloc _ _ _ (by simp)]; exact e0
    · exact Turn.of_below ((below_alloc w _).alloc (by simp) _)
  have hsz0 : W0.heap.size = w.heap.size + 2 := by rw [hW0]; simp
  have hbw : Below w.heap.size w W0 := by rw [hW0]; exact (below_alloc w _).alloc (by simp) _
  have HW0 := Lib.hid hW0.symm
  have H0 := Lib.hid h0
  have HS := Lib.hid hseq
  have HBO := Lib.hid hbo
  have HIP := Lib.hid hIp
  have HKP := Lib.hid hkp
  clear hW0 h h0 hseq hbo hIp hkp
  refine callsIn_of_wp_marks Try.func74 rfl trivial ?_ rfl
  simp only [Try.ntmps74, List.size_toArray, List.length_cons, List.length_nil, Nat.reduceAdd, Nat.reduceSub, Array.replicate_succ, Array.replicate_zero, List.push_toArray, List.append_toArray, List.nil_append, List.cons_append]
  gi_wp2_with fail
  rw [HW0.out]
  gi_wp2_with fail
  refine range_ask (α := Int) rfl (by omega) (gf := gf) rfl trivial eg HS.out HKP.out.kt ?hKb hbw (fun _ => rfl)
    (EI w b g r c cur L) (fun pre W h => HIP.out pre W h.pl) (fun c' pre W => c' = .ret ∧ EX w L pre W) (EI.own _ (by omega)) (fun c' s X Y row h hg hr => ⟨h.1, EX.own _ (by omega) s X Y row h.2 hg hr⟩) H0.out
    (fun p a' _ => a' = { tmps := #[.pointer (some ⟨b, 0, none⟩), .func (.func gf) #[] lb, .pointer (some ⟨w.heap.size, 0, none⟩), undef, .pointer (some ⟨w.heap.size + 1, 0, none⟩), .int .i64 p, undef, undef, .func (.func gf) #[] lb, .int .i64 p, undef, undef, undef, undef, undef, undef, undef, undef], defers := [] })
    (fun _ _ _ _ _ _ h _ _ => h) ?assign ?body ?done ?stop
  case hKb =>
    intro W o o' ho hc
    have := lt_of_block ho
    exact HKP.out.kput W _ o' (by omega) (by omega)
  case assign =>
    intro l pre p W K hsp hWs hI' hK
    gi_wp2
    exact hK _ _ (KeepsFrom.refl _ _) (HKP.out.kr _) hI' rfl
  case body =>
    rintro l pre x a' W hsp hI' rfl hlt hWs
    clear hsp
    rw [Nat.add_zero] at hWs
    have q0 : W.cell? ⟨w.heap.size, 0, none⟩ = some (.pointer (some ⟨b, 0, none⟩)) := by simp [World.cell?, hI'.b0]
    have HI' := Lib.hid hI'
    clear hI' hlt
    gi_wp2_with fail
    refine ⟨trivial, ?_⟩
    refine (CallsIn.inRound l (callsIn_wide.2 (entry_any HI'.out.pl x HBO.out))).mono ?_
    rintro e W3 ⟨he, hb3⟩
    obtain ⟨y, hy⟩ : ∃ y, y = goodE L x := ⟨_, rfl⟩
    obtain ⟨z, hz⟩ : ∃ z, z = entV L x := ⟨_, rfl⟩
    rw [← hy, ← hz] at he
    have HY := Lib.hid hy
    have HZ := Lib.hid hz
    clear hy hz
    subst he
    have hI3 := EI.own W.heap.size (by have := HI'.out.tn.size; omega) pre W W3 none HI'.out (grown_of_below hb3) (fun _ e => by cases e)
    have HI3 := Lib.hid hI3
    have r2 : W3.cell? ⟨w.heap.size + 1, 0, none⟩ = some (.int .i64 0) := by simp [World.cell?, hI3.b1]
    have r3 : W3.frozen? ⟨w.heap.size + 1, 0, none⟩ = false := by simp [World.frozen?, hI3.b1]
    have hb3s := hb3.size
    have KB := Lib.hid hb3
    clear hI3 hb3 q0
    cases y with
    | true =>
      have HST := Lib.hid (show goodE L x = true by rw [← HY.out])
      have HMZ := Lib.hid (show z = mv L.length x 1 by rw [HZ.out]; unfold entV; rw [if_pos HST.out])
      gi_wp2
      have ts := turn_set W3 (w.heap.size + 1) 0 (.int .i64 z)
      have t3 : Turn (At (w.heap.size + 1)) W W3 := Turn.of_below KB.out
      refine ⟨keeps_of_turn (t3.trans ts) (fun k hk => by unfold At at hk; omega), rfl, ⟨⟨pre, x, rfl, HI'.out.no, HST.out, ?_⟩, ?_⟩⟩
      · rw [heap_set HI3.out.b1 0 _, ← HMZ.out]; simp
      · have ht2 : Turn (fun k => w.heap.size ≤ k) w (W3.setCell ⟨w.heap.size + 1, 0, none⟩ (.int .i64 z)) := (HI3.out.tn.mono fun k hk => hk.elim).trans (ts.mono fun k hk => by rw [show k = w.heap.size + 1 from hk]; omega)
        exact ⟨ht2.os, ht2.tape, ht2.output, ht2.size, fun k hk hn => ht2.block k hk (by omega)⟩
    | false =>
      have HST := Lib.hid (show goodE L x = false by rw [← HY.out])
      gi_wp2
      refine ⟨keepsB KB.out, HKP.out.kb _ _ (by omega) KB.out, ⟨HI3.out.pl, HI3.out.b0, HI3.out.b1, HI3.out.tn, ?_⟩⟩
      intro y hy
      rcases List.mem_append.1 hy with hy | hy
      · exact HI'.out.no y hy
      · obtain rfl : y = x := by simpa using hy
        exact HST.out
  case done =>
    rintro D ys W hD rfl hI' hK
    have r2 : W.cell? ⟨w.heap.size + 1, 0, none⟩ = some (.int .i64 0) := by simp [World.cell?, hI'.b1]
    have r3 : W.frozen? ⟨w.heap.size + 1, 0, none⟩ = false := by simp [World.frozen?, hI'.b1]
    have HI' := Lib.hid hI'
    clear hI'
    gi_wp2
    refine ⟨by simp, .inl ⟨_, _, rfl, run_takeDeferred (by rw [Below.heap_setCell _ _ _ _ (by show D ≠ w.heap.size + 1; omega)]; exact hK), ?_⟩⟩
    refine ⟨_, results_cell_int rfl _ _ (w.heap.size + 1) 0 (0, 0) rfl ?_, ?_⟩
    · rw [World.putObj_heap_other (by omega), heap_set HI'.out.b1 0 _]; simp
    · refine ⟨by rw [enone HI'.out.no], ?_⟩
      have ts := turn_set W (w.heap.size + 1) 0 (.int .i64 0)
      have t2 : Turn (fun k => w.heap.size ≤ k) w (W.setCell ⟨w.heap.size + 1, 0, none⟩ (.int .i64 0)) := (HI'.out.tn.mono fun k hk => hk.elim).trans (ts.mono fun k hk => by rw [show k = w.heap.size + 1 from hk]; omega)
      have t3 := t2.grown (grownBy_putObj' _ D (.deferred none)) (fun k e => by cases e; left; omega)
      exact t3.below (Nat.le_refl _) (fun k hk => hk)
  case stop =>
    rintro D c' pre W hD hpre ⟨rfl, hx⟩ hK
    have HX := Lib.hid hx
    clear hx
    gi_wp2
    obtain ⟨⟨pre', x, rfl, h1, h2, h3⟩, h4⟩ := HX.out
    refine ⟨by simp, .inl ⟨_, _, rfl, run_takeDeferred hK, ?_⟩⟩
    refine ⟨_, results_cell_int rfl _ _ (w.heap.size + 1) (mv L.length x 1) (0, 0) rfl ?_, ?_⟩
    · rw [World.putObj_heap_other (by omega)]; exact h3
    · refine ⟨by rw [ehit hpre h1 h2], ?_⟩
      have t3 := h4.grown (grownBy_putObj' _ D (.deferred none)) (fun k e => by cases e; left; omega)
      exact t3.below (Nat.le_refl _) (fun k hk => hk.elim)
section
variable {w : World} {b g : Nat} {r c cur : Int} {L : List Cl}
set_option maxHeartbeats 800000 in
theorem ctnext_any (h : PlAt w b g r c cur L) (hbo : BoL L) (a : Int) : Calls Try.prog 71 #[.pointer (some ⟨b, 0, none⟩), .int .i64 a] w fun e W => e = .returned (.int .i64 (tabL L a)) ∧ Below w.heap.size w W := by
  have hn : Hid (cells r c = (L.length : Int)) := Lib.hid h.size
  have HH := Lib.hid h
  have HBO := Lib.hid hbo
  clear h hbo
  go_enter Try.func71, Try.ntmps71
  go_wp2_with fail
  go_at_call 68
  refine (size_any HH.out).mono ?_
  rintro e w1 ⟨rfl, hb1⟩
  have B1 := Lib.hid hb1
  clear hb1
  go_wp2_with fail
  go_at_call 107
  refine (between_any r c a a L.length w1 hn).mono ?_
  rintro e w2 ⟨B, rfl, hI, hb2, hB⟩
  have hl := hI.1
  have hseq := betw_ask 2 (by omega) _ _ _ _ a L.length a r c hn w2 hI
  have HSQ := Lib.hid hseq
  have HL := Lib.hid hl
  have B2 := Lib.hid (B1.out.trans (hb2.mono B1.out.size))
  clear hI hseq hl hb2
  go_wp2_with fail
  go_at_call 74
  refine (callsIn_wide.1 (firstEntry_any (HH.out.below B2.out) HBO.out (xs := betw L.length a a) (enters_of Try.func139 (by kernel_rfl) rfl) (kpOk4 HL.out) (fun _ _ _ => trivial) HSQ.out)).mono ?_
  rintro e w3 ⟨rfl, hb3⟩
  go_wp2
  go_ret
  exact ⟨rfl, B2.out.trans (hb3.mono B2.out.size)⟩
end
end Go.Proofs.Ytlcjiffnmpkndaa.Pl
