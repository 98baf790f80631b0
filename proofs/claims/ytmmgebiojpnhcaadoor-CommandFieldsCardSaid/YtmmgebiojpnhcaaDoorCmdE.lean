/-
  Parse of a command that isn't one of fields.
-/
import Derived.Test.YtmmgebiojpnhcaaDoorCmdD
import Derived.Laws.ResultCell
namespace Go.Proofs.YtmmgebiojpnhcaaDoor.Cmd
open Go.RowKit Base Go.Proofs.YtmmgebiojpnhcaaDoor.Ord
set_option linter.unusedVariables false
set_option linter.unusedSimpArgs false

def CmP (w : World) (T : Cm × Int) (e : Ending) (w' : World) : Prop := ∃ V, e = .returned (.tuple #[V, .int .i64 T.2]) ∧ CmV w.heap.size w' T.1 V ∧ Below w.heap.size w w'
/-- .. of a command that has no fields. -/
def CmP1 (w : World) (T : Cm × Int) (e : Ending) (w' : World) : Prop := ∃ vo P, e = .returned (.tuple #[.agg #[.int .u8 T.1.kind, .int .u8 T.1.wcc, vo, .int .i64 T.1.err, .slice none 0 0], .int .i64 T.2]) ∧ OrdsOwn w.heap.size w' vo P ∧ P.map (·.1) = T.1.ords ∧ Below w.heap.size w w'
theorem CmP1.cm {w w' : World} {T : Cm × Int} {e : Ending} (h : CmP1 w T e w') (hf : T.1.fields = []) : CmP w T e w' := by
  obtain ⟨vo, P, he, h1, h2, h3⟩ := h
  exact ⟨_, he, ⟨vo, _, P, [], rfl, h1, h2, FlsOwn.nil _ _, by rw [hf]; rfl⟩, h3⟩
theorem oneM_fields (L : List Int) : (oneM L).1.fields = [] := by
  unfold oneM Cm.zero
  repeat' split
  all_goals rfl
theorem results_row_tmp {fn : Func} {p u : Tmp} {ty : TypeId} (h : fn.results = #[.cell p ty, .tmp u]) (tmps : Array Value) (w : World) (g : Nat) (cs : Array Value)
    (hp : tmps.getD p undef = .pointer (some ⟨g, 0, none⟩)) (hrun : (loadVar ty ⟨g, 0, none⟩).run Tryd.prog w = .ok (.agg cs) w) :
    (results fn tmps).run Tryd.prog w = .ok (.tuple #[.agg cs, tmps.getD u undef]) w := by
  rw [results_cell_tmp h, hp]
  simp [asAddr, hrun, Result.andThen]
theorem load_cm {g : Nat} {W : World} {x0 x1 x2 x3 x4 : Value} (hr : W.heap[g]? = some (.cells #[x0, x1, x2, x3, x4] 28 (0, 0))) : (loadVar 28 ⟨g, 0, none⟩).run Tryd.prog W = .ok (.agg #[x0, x1, x2, x3, x4]) W :=
  run_loadVar_row _ g 28 28 _ (0, 0) _ hr Tryd.underlying28 rfl size_cm
theorem cells5 {W : World} {g : Nat} {x0 x1 x2 x3 x4 : Value} {t : TypeId} (h : W.heap[g]? = some (.cells #[x0, x1, x2, x3, x4] t (0, 0))) :
    W.cell? ⟨g, 0, none⟩ = some x0 ∧ W.cell? ⟨g, 1, none⟩ = some x1 ∧ W.cell? ⟨g, 2, none⟩ = some x2 ∧ W.cell? ⟨g, 3, none⟩ = some x3 ∧ W.cell? ⟨g, 4, none⟩ = some x4 ∧
    W.frozen? ⟨g, 0, none⟩ = false ∧ W.frozen? ⟨g, 1, none⟩ = false ∧ W.frozen? ⟨g, 2, none⟩ = false ∧ W.frozen? ⟨g, 3, none⟩ = false ∧ W.frozen? ⟨g, 4, none⟩ = false := by
  simp [World.cell?, World.frozen?, h]
def put5 (W : World) (g : Nat) (x0 x1 x2 x3 x4 : Value) : World := ((((W.setCell ⟨g, 0, none⟩ x0).setCell ⟨g, 1, none⟩ x1).setCell ⟨g, 2, none⟩ x2).setCell ⟨g, 3, none⟩ x3).setCell ⟨g, 4, none⟩ x4
theorem put5_turn (W : World) (g : Nat) (x0 x1 x2 x3 x4 : Value) : Turn (At g) W (put5 W g x0 x1 x2 x3 x4) :=
  ((((turn_set W g 0 x0).trans (turn_set _ g 1 x1)).trans (turn_set _ g 2 x2)).trans (turn_set _ g 3 x3)).trans (turn_set _ g 4 x4)
theorem put5_row {W : World} {g : Nat} {y0 y1 y2 y3 y4 : Value} {t : TypeId} (h : W.heap[g]? = some (.cells #[y0, y1, y2, y3, y4] t (0, 0))) (x0 x1 x2 x3 x4 : Value) : (put5 W g x0 x1 x2 x3 x4).heap[g]? = some (.cells #[x0, x1, x2, x3, x4] t (0, 0)) := by
  have := heap_set (heap_set (heap_set (heap_set (heap_set h 0 x0) 1 x1) 2 x2) 3 x3) 4 x4
  simpa [put5] using this
abbrev zV : Array Value := #[.int .u8 0, .int .u8 0, .slice none 0 0, .int .i64 0, .slice none 0 0]
/-- The result in block s. -/
structure KQ (w : World) (s : Nat) (v : Value) (L : List Int) (W : World) : Prop where
  res : W.heap[s]? = some (.cells zV 28 (0, 0))
  hs : s = w.heap.size
  old : Below s w W
  tb : Tbl W
  cut : CutRow W v L
section
variable {w W W' : World} {s : Nat} {v : Value} {L : List Int}
theorem KQ.below (h : KQ w s v L W) (t : Below W.heap.size W W') : KQ w s v L W' :=
  ⟨(t.block s (lt_of_block h.res)).trans h.res, h.hs, h.old.trans (t.mono (by rw [h.hs]; exact h.old.size)), h.tb.below t, h.cut.below t⟩
theorem KQ.fin (h : KQ w s v L W) (x0 x1 x2 x3 x4 : Value) : Below w.heap.size w (put5 W s x0 x1 x2 x3 x4) ∧ (loadVar 28 ⟨s, 0, none⟩).run Tryd.prog (put5 W s x0 x1 x2 x3 x4) = .ok (.agg #[x0, x1, x2, x3, x4]) (put5 W s x0 x1 x2 x3 x4) := by
  obtain ⟨hr, rfl, ho, _, _⟩ := h
  have hrow := put5_row hr x0 x1 x2 x3 x4
  have ht := put5_turn W w.heap.size x0 x1 x2 x3 x4
  generalize put5 W w.heap.size x0 x1 x2 x3 x4 = Z at hrow ht ⊢
  exact ⟨ho.trans (ht.at_below ho.size (Nat.le_refl _)), load_cm hrow⟩
structure KR (w : World) (s : Nat) (W : World) : Prop where
  res : W.heap[s]? = some (.cells zV 28 (0, 0))
  hs : s = w.heap.size
  old : Below s w W
theorem KQ.kr (h : KQ w s v L W) : KR w s W := ⟨h.res, h.hs, h.old⟩
theorem KR.below (h : KR w s W) (t : Below W.heap.size W W') : KR w s W' :=
  ⟨(t.block s (lt_of_block h.res)).trans h.res, h.hs, h.old.trans (t.mono (by rw [h.hs]; exact h.old.size))⟩
theorem KR.turn {q : Nat} (h : KR w s W) (hq : s < q) (t : Turn (At q) W W') : KR w s W' :=
  ⟨(t.block s (lt_of_block h.res) (fun e => by have : s = q := e; omega)).trans h.res, h.hs, h.old.trans (t.at_below (by rw [h.hs]; exact h.old.size) (by omega))⟩
theorem KR.fin (h : KR w s W) (x0 x1 x2 x3 x4 : Value) : Below w.heap.size w (put5 W s x0 x1 x2 x3 x4) ∧ (loadVar 28 ⟨s, 0, none⟩).run Tryd.prog (put5 W s x0 x1 x2 x3 x4) = .ok (.agg #[x0, x1, x2, x3, x4]) (put5 W s x0 x1 x2 x3 x4) := by
  obtain ⟨hr, rfl, ho⟩ := h
  have hrow := put5_row hr x0 x1 x2 x3 x4
  have ht := put5_turn W w.heap.size x0 x1 x2 x3 x4
  generalize put5 W w.heap.size x0 x1 x2 x3 x4 = Z at hrow ht ⊢
  exact ⟨ho.trans (ht.at_below ho.size (Nat.le_refl _)), load_cm hrow⟩
theorem KQ.start (ht : Tbl w) (hc : CutRow w v L) : KQ w w.heap.size v L (w.alloc (.cells zV 28)) := ⟨heap_alloc_new _ _, rfl, below_alloc _ _, ht.below (below_alloc _ _), hc.below (below_alloc _ _)⟩
end
theorem keep_put {s B : Nat} {W : World} {u : Value} {P : List OrdP} (h : OrdsOwn B W u P) (hB : s < B) (x0 x1 x2 x3 x4 : Value) : OrdsOwn s (put5 W s x0 x1 x2 x3 x4) u P :=
  (h.turn (put5_turn W s x0 x1 x2 x3 x4) fun k hk => by have : k = s := hk; omega).lower (Nat.le_of_lt hB)
set_option maxRecDepth 100000 in
set_option maxHeartbeats 4000000 in
theorem one_any {w : World} (ht : Tbl w) (v : Value) (L : List Int) (hc : CutRow w v L) (hb : ∀ x ∈ L, 0 ≤ x ∧ x < 256) (hm : L.length ≤ 1000000) (hk : L ≠ [] → toldK (nthL L 0) ≠ 243) :
    Calls Tryd.prog 8 #[v] w (CmP1 w (oneM L)) := by
  have HK0 := Lib.hid (KQ.start ht hc)
  obtain ⟨a, c, rfl⟩ : ∃ a c, v = .slice a L.length c := by obtain ⟨_, a, c, e, _⟩ := hc; exact ⟨a, c, e⟩
  obtain ⟨n, hn⟩ : ∃ n, n = L.length := ⟨_, rfl⟩
  obtain ⟨s, hs⟩ : ∃ s, s = w.heap.size := ⟨_, rfl⟩
  obtain ⟨W0, hW0⟩ : ∃ W0, W0 = w.alloc (.cells #[.int .u8 0, .int .u8 0, .slice none 0 0, .int .i64 0, .slice none 0 0] 28) := ⟨_, rfl⟩
  rw [← hW0, ← hs, ← hn] at HK0
  rw [← hn]
  have HW0 := Lib.hid hW0.symm
  have HS := Lib.hid hs.symm
  have HN := Lib.hid hn
  have HBY := Lib.hid hb
  have HMX := Lib.hid hm
  have HKN := Lib.hid hk
  clear hW0 hs hc hb hm hk ht
  by_cases hL : L = []
  · have hn0 : n = 0 := by rw [hn, hL]; rfl
    subst hn0
    have HE : Hid (oneM L = (Cm.zero, 30)) := Lib.hid (by rw [hL]; rfl)
    clear hn hL
    go_enter Tryd.func8, Tryd.ntmps8
    go_upto_region 1 with fail
    rw [HW0.out, HS.out]
    obtain ⟨d0, d1, d2, d3, d4, z0, z1, z2, z3, z4⟩ := cells5 HK0.out.res
    go_wp2_with fail
    obtain ⟨q1, q2⟩ := HK0.out.fin (.int .u8 0) (.int .u8 0) (.slice none 0 0) (.int .i64 0) (.slice none 0 0)
    refine bodyPost_ret (results_row_tmp rfl _ _ s _ rfl q2) rfl ?_
    rw [HE.out]
    exact ⟨_, [], rfl, OrdsOwn.nil _ _, rfl, q1⟩
  have hnpos : 0 < n := by rw [hn]; exact List.length_pos_iff.2 hL
  have HL0 := Lib.hid hL
  obtain ⟨-, hncap, b, off, rfl, hcell⟩ := CutRow.nth HK0.out.cut hnpos
  have HNC := Lib.hid hncap
  have hlow := HK0.out.cut
  obtain ⟨x, hx⟩ : ∃ x, x = nthL L 0 := ⟨_, rfl⟩
  obtain ⟨k, hk⟩ : ∃ k, k = toldK (nthL L 0) := ⟨_, rfl⟩
  have c0 : W0.cell? ⟨b, off, none⟩ = some (.int .u8 x) := by rw [hx]; exact hcell 0 hnpos
  have HTOLD : Hid (∀ W, Tbl W → Calls Tryd.prog 20 #[.int .u8 x] W fun e w' => e = .returned (.int .u8 k) ∧ Below W.heap.size W w') := Lib.hid (fun W h => by rw [hk, ← hx]; exact told_any h x)
  have HX := Lib.hid hx
  have HK := Lib.hid hk
  have hk243 : (k == 243) = false := by rw [hk]; simpa using HKN.out HL0.out
  have hn00 : ((n : Int) == 0) = false := by simp; omega
  clear hlow hx hk hcell hL hn hncap
  by_cases hk0 : k = 0
  · subst hk0
    have HE : Hid (oneM L = (Cm.zero, 30)) := Lib.hid (by unfold oneM; rw [if_neg HL0.out, if_pos HK.out.symm])
    go_enter Tryd.func8, Tryd.ntmps8
    go_upto_region 1 with fail
    rw [HW0.out, HS.out]
    go_wp2_with fail
    refine (HTOLD.out _ HK0.out.tb).mono ?_
    rintro e W1 ⟨rfl, b1⟩
    have HK1 := Lib.hid (HK0.out.below b1)
    clear b1 c0
    obtain ⟨d0, d1, d2, d3, d4, z0, z1, z2, z3, z4⟩ := cells5 HK1.out.res
    go_wp2_with fail
    obtain ⟨q1, q2⟩ := HK1.out.fin (.int .u8 0) (.int .u8 0) (.slice none 0 0) (.int .i64 0) (.slice none 0 0)
    refine bodyPost_ret (results_row_tmp rfl _ _ s _ rfl q2) rfl ?_
    rw [HE.out]
    exact ⟨_, [], rfl, OrdsOwn.nil _ _, rfl, q1⟩
  have HK00 := Lib.hid hk0
  have hk0t : (k == 0) = false := by simpa using hk0
  have H0C : Hid (∀ W, KQ w s (.slice (some ⟨b, off, none⟩) n c) L W → W.cell? ⟨b, off, none⟩ = some (.int .u8 x)) := Lib.hid (fun W h => by
    obtain ⟨_, _, b2, off2, e, hi⟩ := CutRow.nth h.cut hnpos
    cases e
    have := hi 0 hnpos
    rw [HX.out]; exact this)
  have H1C : Hid (∀ W, KQ w s (.slice (some ⟨b, off, none⟩) n c) L W → 1 < n → W.cell? ⟨b, off + 1, none⟩ = some (.int .u8 (nthL L 1))) := Lib.hid (fun W h h1 => by
    obtain ⟨_, _, b2, off2, e, hi⟩ := CutRow.nth h.cut hnpos
    cases e
    exact hi 1 h1)
  have HHAS := Lib.hid (has_any k)
  clear hk0
  cases hhas : hasK k
  · rw [hhas] at HHAS
    have HE : Hid (oneM L = (⟨k, 0, [], 0, []⟩, 0)) := Lib.hid (by unfold oneM; rw [if_neg HL0.out, ← HK.out, if_neg HK00.out, hhas]; rfl)
    clear hhas
    go_enter Tryd.func8, Tryd.ntmps8
    go_upto_region 1 with fail
    rw [HW0.out, HS.out]
    go_wp2_with fail
    refine (HTOLD.out _ HK0.out.tb).mono ?_
    rintro e W1 ⟨rfl, b1⟩
    have HK1 := Lib.hid (HK0.out.below b1)
    clear b1 c0
    have c0 := H0C.out _ HK1.out
    go_wp2_with fail
    refine (HTOLD.out _ HK1.out.tb).mono ?_
    rintro e W2 ⟨rfl, b2⟩
    have HK2 := Lib.hid (HK1.out.below b2)
    clear b2 c0
    have HK3 := Lib.hid (HK2.out.below (below_alloc W2 (.cells #[.int .u8 k, .int .u8 0, .slice none 0 0, .int .i64 0, .slice none 0 0] 28)))
    have hq := heap_alloc_new W2 (.cells #[.int .u8 k, .int .u8 0, .slice none 0 0, .int .i64 0, .slice none 0 0] 28)
    obtain ⟨W3, hW3⟩ : ∃ W3, W3 = W2.alloc (.cells #[.int .u8 k, .int .u8 0, .slice none 0 0, .int .i64 0, .slice none 0 0] 28) := ⟨_, rfl⟩
    obtain ⟨q, hqq⟩ : ∃ q, q = W2.heap.size := ⟨_, rfl⟩
    rw [← hW3] at hq HK3
    rw [← hqq] at hq
    have HW3 := Lib.hid hW3.symm
    have HQQ := Lib.hid hqq.symm
    clear hW3 hqq
    obtain ⟨e0, e1, e2, e3, e4, _⟩ := cells5 hq
    obtain ⟨d0, d1, d2, d3, d4, z0, z1, z2, z3, z4⟩ := cells5 HK3.out.res
    go_upto_region 4 with fail
    rw [HW3.out, HQQ.out]
    go_wp2_with (first | (go_at_call 22; refine (HHAS.out _).mono ?_; rintro e w' ⟨rfl, rfl⟩))
    obtain ⟨q1, q2⟩ := HK3.out.fin (.int .u8 k) (.int .u8 0) (.slice none 0 0) (.int .i64 0) (.slice none 0 0)
    refine bodyPost_ret (results_row_tmp rfl _ _ s _ rfl q2) rfl ?_
    rw [HE.out]
    exact ⟨_, [], rfl, OrdsOwn.nil _ _, rfl, q1⟩
  · rw [hhas] at HHAS
    by_cases hn1 : n = 1
    · have HE : Hid (oneM L = (Cm.zero, 20)) := Lib.hid (by unfold oneM; rw [if_neg HL0.out, ← HK.out, if_neg HK00.out, hhas, if_pos rfl, if_pos (by rw [← HN.out]; exact hn1)])
      subst hn1
      clear hhas
      go_enter Tryd.func8, Tryd.ntmps8
      go_upto_region 1 with fail
      rw [HW0.out, HS.out]
      go_wp2_with fail
      refine (HTOLD.out _ HK0.out.tb).mono ?_
      rintro e W1 ⟨rfl, b1⟩
      have HK1 := Lib.hid (HK0.out.below b1)
      clear b1 c0
      have c0 := H0C.out _ HK1.out
      go_wp2_with fail
      refine (HTOLD.out _ HK1.out.tb).mono ?_
      rintro e W2 ⟨rfl, b2⟩
      have HK2 := Lib.hid (HK1.out.below b2)
      clear b2 c0
      have HK3 := Lib.hid (HK2.out.below (below_alloc W2 (.cells #[.int .u8 k, .int .u8 0, .slice none 0 0, .int .i64 0, .slice none 0 0] 28)))
      have hq := heap_alloc_new W2 (.cells #[.int .u8 k, .int .u8 0, .slice none 0 0, .int .i64 0, .slice none 0 0] 28)
      obtain ⟨W3, hW3⟩ : ∃ W3, W3 = W2.alloc (.cells #[.int .u8 k, .int .u8 0, .slice none 0 0, .int .i64 0, .slice none 0 0] 28) := ⟨_, rfl⟩
      obtain ⟨q, hqq⟩ : ∃ q, q = W2.heap.size := ⟨_, rfl⟩
      rw [← hW3] at hq HK3
      rw [← hqq] at hq
      have HW3 := Lib.hid hW3.symm
      have HQQ := Lib.hid hqq.symm
      clear hW3 hqq
      obtain ⟨e0, e1, e2, e3, e4, _⟩ := cells5 hq
      obtain ⟨d0, d1, d2, d3, d4, z0, z1, z2, z3, z4⟩ := cells5 HK3.out.res
      go_upto_region 4 with fail
      rw [HW3.out, HQQ.out]
      go_wp2_with (first | (go_at_call 22; refine (HHAS.out _).mono ?_; rintro e w' ⟨rfl, rfl⟩))
      obtain ⟨q1, q2⟩ := HK3.out.fin (.int .u8 0) (.int .u8 0) (.slice none 0 0) (.int .i64 0) (.slice none 0 0)
      refine bodyPost_ret (results_row_tmp rfl _ _ s _ rfl q2) rfl ?_
      rw [HE.out]
      exact ⟨_, [], rfl, OrdsOwn.nil _ _, rfl, q1⟩
    · have hn2 : 1 < n := by omega
      have hnt : ((n : Int) == 1) = false := by simp; omega
      have HE : Hid (oneM L = (⟨k, nthL L 1, ordsOf L, errsOf L, []⟩, 0)) := Lib.hid (by unfold oneM; rw [if_neg HL0.out, ← HK.out, if_neg HK00.out, hhas, if_pos rfl, if_neg (by rw [← HN.out]; exact hn1)])
      have HPB : Hid (∀ x ∈ L.drop 2, 0 ≤ x ∧ x < 256) := Lib.hid fun x hx => HBY.out x (List.mem_of_mem_drop hx)
      have HPM : Hid ((L.drop 2).length ≤ 1000000) := Lib.hid (by rw [List.length_drop]; have := HMX.out; omega)
      clear hhas hn1
      go_enter Tryd.func8, Tryd.ntmps8
      go_upto_region 1 with fail
      rw [HW0.out, HS.out]
      go_wp2_with fail
      refine (HTOLD.out _ HK0.out.tb).mono ?_
      rintro e W1 ⟨rfl, b1⟩
      have HK1 := Lib.hid (HK0.out.below b1)
      clear b1 c0
      have c0 := H0C.out _ HK1.out
      go_wp2_with fail
      refine (HTOLD.out _ HK1.out.tb).mono ?_
      rintro e W2 ⟨rfl, b2⟩
      have HK2 := Lib.hid (HK1.out.below b2)
      clear b2 c0
      have HK3 := Lib.hid (HK2.out.below (below_alloc W2 (.cells #[.int .u8 k, .int .u8 0, .slice none 0 0, .int .i64 0, .slice none 0 0] 28)))
      have hq := heap_alloc_new W2 (.cells #[.int .u8 k, .int .u8 0, .slice none 0 0, .int .i64 0, .slice none 0 0] 28)
      have hsq := lt_of_block HK2.out.res
      obtain ⟨W3, hW3⟩ : ∃ W3, W3 = W2.alloc (.cells #[.int .u8 k, .int .u8 0, .slice none 0 0, .int .i64 0, .slice none 0 0] 28) := ⟨_, rfl⟩
      obtain ⟨q, hqq⟩ : ∃ q, q = W2.heap.size := ⟨_, rfl⟩
      rw [← hW3] at hq HK3
      rw [← hqq] at hq hsq
      have HW3 := Lib.hid hW3.symm
      have HQQ := Lib.hid hqq.symm
      clear hW3
      have c1 := H1C.out _ HK3.out hn2
      obtain ⟨e0, e1, e2, e3, e4, y0, y1, y2, y3, y4⟩ := cells5 hq
      have HWC := Lib.hid (turn_set W3 q 1 (.int .u8 (nthL L 1)))
      have HQ3 := Lib.hid hq
      have hbq : b ≠ q := by
        have h1 := World.block_lt_of_cell? W2 ⟨b, off, none⟩ (H0C.out _ HK2.out)
        have : b < W2.heap.size := h1
        omega
      have HCUT := Lib.hid (show CutRow (W3.setCell ⟨q, 1, none⟩ (.int .u8 (nthL L 1))) (sliced (some ⟨b, off, none⟩) 2 n c 1) (L.drop 2) from by
        have h2 := HK2.out.cut.1.lowK
        have h3 := slice_mid HK3.out.cut 2 n (by omega) (Nat.le_refl _)
        rw [List.take_of_length_le (by rw [← HN.out]; exact Nat.le_refl _)] at h3
        have h4 := slice_mid HK2.out.cut 2 n (by omega) (Nat.le_refl _)
        rw [List.take_of_length_le (by rw [← HN.out]; exact Nat.le_refl _)] at h4
        refine ⟨?_, h3.2⟩
        have h5 := h4.1.lowK
        exact ((h5.below (w' := W3) (by rw [← HW3.out]; exact below_alloc _ _)).turn HWC.out fun k hk e => by have : k = q := e; omega).row)
      obtain ⟨vs, hvs⟩ : ∃ vs, vs = sliced (some ⟨b, off, none⟩) 2 n c 1 := ⟨_, rfl⟩
      have hsl : ∀ W, (Instr.slice 22 (.slice (some ⟨b, off, none⟩) n c) (some (.int .i64 2)) none none).run Tryd.prog W = .ok vs W := fun W => by rw [hvs]; exact slice_run_from 2 (by omega) HNC.out W
      rw [← hvs] at HCUT
      clear hvs hqq hbq
      go_upto_region 4 with fail
      rw [HW3.out, HQQ.out]
      go_wp2_with (first | (go_at_call 22; refine (HHAS.out _).mono ?_; rintro e w' ⟨rfl, rfl⟩) | fail)
      refine (parse_any vs (L.drop 2) _ HCUT.out HPB.out HPM.out).mono ?_
      rintro e W4 ⟨u, P, he, hP, hPm, b4⟩
      have he2 : e = .returned (.tuple #[u, .int .i64 (parseL (L.drop 2) ((L.drop 2).length + 1) 0).2.1, .int .i64 (errsOf L)]) := he
      have hPm2 : P.map (·.1) = ordsOf L := hPm
      obtain ⟨pn, hpn⟩ : ∃ pn, pn = (parseL (L.drop 2) ((L.drop 2).length + 1) 0).2.1 := ⟨_, rfl⟩
      rw [← hpn] at he2
      clear he hPm hpn
      subst he2
      obtain ⟨E, hE⟩ : ∃ E, E = errsOf L := ⟨_, rfl⟩
      rw [← hE] at HE ⊢
      clear hE
      have HR4 := Lib.hid ((HK3.out.kr.turn hsq HWC.out).below b4)
      have HSZ : Hid (q < (W3.setCell ⟨q, 1, none⟩ (.int .u8 (nthL L 1))).heap.size) := Lib.hid (by have := lt_of_block HQ3.out; simpa using this)
      have hq4 := (b4.block q HSZ.out).trans (heap_set HQ3.out 1 (.int .u8 (nthL L 1)))
      have HP4 := Lib.hid hP
      have HPM4 := Lib.hid hPm2
      obtain ⟨ua, uc, rfl⟩ := hP.form
      obtain ⟨um, hum⟩ : ∃ um, um = P.length := ⟨_, rfl⟩
      rw [← hum] at HP4 ⊢
      have HT4 := Lib.hid ((turn_set W4 q 2 (.slice ua um uc)).trans (turn_set _ q 3 (.int .i64 E)))
      have HR5 := Lib.hid (HR4.out.turn hsq HT4.out)
      have HP5 := Lib.hid (HP4.out.turn HT4.out fun k hk => by have : k = q := hk; have := HSZ.out; omega)
      have hq5 := heap_set (heap_set hq4 2 (.slice ua um uc)) 3 (.int .i64 E)
      clear b4 hP hPm2 e0 e1 e2 e3 e4 y0 y1 y2 y3 y4 hum c1 hq hsl
      obtain ⟨e0, e1, e2, e3, e4, y0, y1, y2, y3, y4⟩ := cells5 hq4
      clear hq4
      have HQ5 := Lib.hid hq5
      clear hq5
      have hsS : s ≠ q := by omega
      obtain ⟨d0, d1, d2, d3, d4, z0, z1, z2, z3, z4⟩ := cells5 HR4.out.res
      go_wp2_with fail
      obtain ⟨q1, q2⟩ := HR5.out.fin (.int .u8 k) (.int .u8 (nthL L 1)) (.slice ua um uc) (.int .i64 E) (.slice none 0 0)
      have HP6 := keep_put (s := s) HP5.out (by have := HSZ.out; omega) (.int .u8 k) (.int .u8 (nthL L 1)) (.slice ua um uc) (.int .i64 E) (.slice none 0 0)
      refine bodyPost_ret (results_row_tmp rfl _ _ s _ rfl q2) rfl ?_
      rw [HE.out]
      rw [← HS.out] at HP6
      exact ⟨_, P, rfl, by rw [HS.out] at HP6 ⊢; exact HP6, HPM4.out, q1⟩
end Go.Proofs.YtmmgebiojpnhcaaDoor.Cmd
