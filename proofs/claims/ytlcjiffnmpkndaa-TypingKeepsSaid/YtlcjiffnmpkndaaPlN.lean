/-
  The document's plane: its making.
-/
import Derived.Test.YtlcjiffnmpkndaaPlD
import Derived.Laws.ResultCell
namespace Go.Proofs.Ytlcjiffnmpkndaa.Pl
open Go.RowKit Go.Shelf Base
set_option linter.unusedVariables false
set_option linter.unusedSimpArgs false

/-- The document's plane as a value. -/
def xV (r c : Int) (v : Value) (cur : Int) : Value := .agg #[.int .i64 r, .int .i64 c, v, .int .i64 cur]
theorem results_ct {fn : Func} {p u : Tmp} {ty : TypeId} (h : fn.results = #[.cell p ty, .tmp u]) (tmps : Array Value) (w : World) (g : Nat) (cs : Array Value)
    (hp : tmps.getD p undef = .pointer (some ⟨g, 0, none⟩)) (hrun : (loadVar ty ⟨g, 0, none⟩).run Try.prog w = .ok (.agg cs) w) :
    (results fn tmps).run Try.prog w = .ok (.tuple #[.agg cs, tmps.getD u undef]) w := by
  rw [results_cell_tmp h, hp]
  simp [asAddr, hrun, Result.andThen]
theorem results_tct {fn : Func} {q p u : Tmp} {ty : TypeId} (h : fn.results = #[.tmp q, .cell p ty, .tmp u]) (tmps : Array Value) (w : World) (g : Nat) (cs : Array Value)
    (hp : tmps.getD p undef = .pointer (some ⟨g, 0, none⟩)) (hrun : (loadVar ty ⟨g, 0, none⟩).run Try.prog w = .ok (.agg cs) w) :
    (results fn tmps).run Try.prog w = .ok (.tuple #[tmps.getD q undef, .agg cs, tmps.getD u undef]) w := by
  have hp' : tmps[p]?.getD undef = .pointer (some ⟨g, 0, none⟩) := by simpa using hp
  simp [results, h, hp', asAddr, hrun, Sem.run_bind, Result.andThen]
theorem size_rp : (Try.prog.info? 29).map (·.size) = some 4 := by kernel_rfl
theorem load_rp {W : World} {b : Nat} {cs : Array Value} {t : TypeId} (h : W.heap[b]? = some (.cells cs t (0, 0))) (hs : cs.size = 4) : (loadVar 29 ⟨b, 0, none⟩).run Try.prog W = .ok (.agg cs) W :=
  run_loadVar_row W b t 29 cs (0, 0) _ h Try.underlying29 rfl (by rw [hs]; exact size_rp)
theorem blk4 {W : World} {b : Nat} {x0 x1 x2 x3 : Value} {t : TypeId} (h : W.heap[b]? = some (.cells #[x0, x1, x2, x3] t (0, 0))) :
    W.cell? ⟨b, 0, none⟩ = some x0 ∧ W.cell? ⟨b, 1, none⟩ = some x1 ∧ W.cell? ⟨b, 2, none⟩ = some x2 ∧ W.cell? ⟨b, 3, none⟩ = some x3 ∧ ∀ o, W.frozen? ⟨b, o, none⟩ = false :=
  ⟨by simp [World.cell?, h], by simp [World.cell?, h], by simp [World.cell?, h], by simp [World.cell?, h], fun o => by simp [World.frozen?, h]⟩
theorem blk2 {W : World} {b : Nat} {x0 x1 : Value} {t : TypeId} (h : W.heap[b]? = some (.cells #[x0, x1] t (0, 0))) :
    W.cell? ⟨b, 0, none⟩ = some x0 ∧ W.cell? ⟨b, 1, none⟩ = some x1 :=
  ⟨by simp [World.cell?, h], by simp [World.cell?, h]⟩
/-- Two boxes ahead of a call that turns nothing of them. -/
theorem boxes {w w' : World} {o1 o2 : Obj} (hb : Below ((w.alloc o1).alloc o2).heap.size ((w.alloc o1).alloc o2) w') :
    w'.heap[w.heap.size]? = some o1 ∧ w'.heap[w.heap.size + 1]? = some o2 ∧ Below w.heap.size w w' := by
  refine ⟨?_, ?_, ?_⟩
  · rw [hb.block _ (by simp; omega)]
    have h1 := heap_alloc_new w o1
    have := (below_alloc (w.alloc o1) o2).block w.heap.size (by simp)
    rw [this]; exact h1
  · rw [hb.block _ (by simp)]
    have := heap_alloc_new (w.alloc o1) o2
    rwa [World.size_alloc] at this
  · exact ((below_alloc w o1).trans ((below_alloc (w.alloc o1) o2).mono (by simp))).trans (hb.mono (by simp; omega))
section
variable {W W' : World} {b g n cap k : Nat} {e t : TypeId} {xs : List Value} {x0 x1 x2 x3 : Value}
theorem own_keep (h : W.ownsRow 0 e k (.slice (some ⟨g, 0, none⟩) n cap) n xs) (hz : W.heap.size ≤ W'.heap.size) (hg : W'.heap[g]? = W.heap[g]?) : W'.ownsRow 0 e k (.slice (some ⟨g, 0, none⟩) n cap) n xs := by
  refine ⟨h.1, ?_⟩
  rcases h.2 with ⟨h, _⟩ | ⟨g', cap', cur, h', hb', hg', hrest⟩
  · cases h
  · cases h'
    exact .inr ⟨g, cap, cur, rfl, hb', hg.trans hg', hrest⟩
theorem put4_blk (h : W.heap[b]? = some (.cells #[x0, x1, x2, x3] t (0, 0))) (y0 y1 y2 y3 : Value) :
    ((((W.setCell ⟨b, 0, none⟩ y0).setCell ⟨b, 1, none⟩ y1).setCell ⟨b, 2, none⟩ y2).setCell ⟨b, 3, none⟩ y3).heap[b]? = some (.cells #[y0, y1, y2, y3] t (0, 0)) :=
  heap_set (heap_set (heap_set (heap_set h 0 _) 1 _) 2 _) 3 _
theorem put4_turn (W : World) (b : Nat) (y0 y1 y2 y3 : Value) :
    Turn (At b) W ((((W.setCell ⟨b, 0, none⟩ y0).setCell ⟨b, 1, none⟩ y1).setCell ⟨b, 2, none⟩ y2).setCell ⟨b, 3, none⟩ y3) :=
  (((turn_set W b 0 y0).trans (turn_set _ b 1 y1)).trans (turn_set _ b 2 y2)).trans (turn_set _ b 3 y3)
end
theorem rnew_no (r c : Int) (w : World) (hn : cells r c = 0) : Calls Try.prog 56 #[.agg #[.int .i64 r, .int .i64 c]] w fun e w' => e = .returned (.tuple #[xV 0 0 (.slice none 0 0) 0, .int .i64 1]) ∧ Below w.heap.size w w' := by
  unfold xV
  go_enter Try.func56, Try.ntmps56
  go_wp2_with (go_at_call 98; refine (rcells_is _ _ _ _ hn).mono ?_; rintro e w' ⟨rfl, hb⟩; obtain ⟨h0, h1, h2⟩ := boxes hb; have HB := Lib.hid h2; obtain ⟨p0, p1, p2, p3, fz⟩ := blk4 h1; have HK := Lib.hid h1; clear h0 h1 h2 hb)
  have hT := (put4_turn w' (w.heap.size + 1) (.int .i64 0) (.int .i64 0) (.slice none 0 0) (.int .i64 0)).at_below (B := w.heap.size) HB.out.size (by omega)
  have hK := load_rp (put4_blk HK.out (.int .i64 0) (.int .i64 0) (.slice none 0 0) (.int .i64 0)) rfl
  refine bodyPost_ret (results_ct rfl _ _ (w.heap.size + 1) _ rfl hK) rfl ?_
  exact ⟨rfl, HB.out.trans hT⟩
set_option maxRecDepth 100000 in
set_option maxHeartbeats 2000000 in
theorem rnew_yes (r c : Int) (n : Nat) (w : World) (hn : cells r c = n) (h0 : 1 ≤ n) (h1 : n ≤ 4096) : Calls Try.prog 56 #[.agg #[.int .i64 r, .int .i64 c]] w fun e w' => ∃ g, e = .returned (.tuple #[xV r c (.slice (some ⟨g, 0, none⟩) n n) 0, .int .i64 0]) ∧ w'.ownsRow 0 58 5 (.slice (some ⟨g, 0, none⟩) n n) n (flatC (List.replicate n c0)) ∧ Below w.heap.size w w' ∧ w.heap.size ≤ g := by
  unfold xV
  have HN := Lib.hid hn
  have hmk := fun w => run_mk w n h1
  have hz : ((n : Int) == 0) = false := by simp; omega
  have HM := Lib.hid (made_zero n)
  have HS : Hid ((madeCells c0.val.cells (n * 5)).size = n * 5) := by simp [madeCells, Hid]
  generalize madeCells c0.val.cells (n * 5) = zc at hmk HM HS
  clear hn
  go_enter Try.func56, Try.ntmps56
  go_wp2_with (go_at_call 98; refine (rcells_is _ _ _ _ HN.out).mono ?_; rintro e w' ⟨rfl, hb⟩; obtain ⟨k0, k1, k2⟩ := boxes hb; have HB := Lib.hid k2; obtain ⟨p0, p1, p2, p3, fz⟩ := blk4 k1; obtain ⟨q0, q1⟩ := blk2 k0; have HK := Lib.hid k1; clear k0 k1 k2 hb)
  have d0 := fun o => cell_later (below_alloc w' o) p0
  have d1 := fun o => cell_later (below_alloc w' o) p1
  have d2 := fun o => cell_later (below_alloc w' o) p2
  have d3 := fun o => cell_later (below_alloc w' o) p3
  have e0 := fun o => cell_later (below_alloc w' o) q0
  have e1 := fun o => cell_later (below_alloc w' o) q1
  have f3 : ∀ o n, (w'.alloc o).frozen? ⟨w.heap.size + 1, n, none⟩ = false := fun o n => by
    have := (below_alloc w' o).block (w.heap.size + 1) (World.block_lt_of_cell? w' ⟨w.heap.size + 1, 0, none⟩ p0)
    exact (World.frozen?_of_block (a := ⟨w.heap.size + 1, n, none⟩) this).trans (fz n)
  go_region
  all_goals go_wp2
  have hK0 := put4_blk (W := w'.alloc (.cells zc 58)) (((below_alloc w' _).block _ (lt_of_block HK.out)).trans HK.out) (.int .i64 r) (.int .i64 c) (.slice (some ⟨w'.heap.size, 0, none⟩) n n) (.int .i64 0)
  have hK := load_rp (W := World.drew (((((w'.alloc (.cells zc 58)).setCell ⟨w.heap.size + 1, 0, none⟩ (.int .i64 r)).setCell ⟨w.heap.size + 1, 1, none⟩ (.int .i64 c)).setCell ⟨w.heap.size + 1, 2, none⟩ (.slice (some ⟨w'.heap.size, 0, none⟩) n n)).setCell ⟨w.heap.size + 1, 3, none⟩ (.int .i64 0))) hK0 rfl
  refine bodyPost_ret (results_ct rfl _ _ (w.heap.size + 1) _ rfl hK) rfl ?_
  have hT := put4_turn (w'.alloc (.cells zc 58)) (w.heap.size + 1) (.int .i64 r) (.int .i64 c) (.slice (some ⟨w'.heap.size, 0, none⟩) n n) (.int .i64 0)
  have hlt := lt_of_block HK.out
  refine ⟨w'.heap.size, rfl, own_keep (W := w'.alloc (.cells zc 58)) ?_ hT.size (hT.block _ (by simp) (by show w'.heap.size ≠ w.heap.size + 1; omega)), ?_, HB.out.size⟩
  · rw [← HM.out]; exact World.ownsRow_lit w' zc n (Nat.zero_le _) (by unfold maxLen; omega) HS.out
  · exact below_drew ((HB.out.alloc HB.out.size _).trans (hT.at_below (by have := HB.out.size; simp; omega) (by omega)))
theorem rnew_any (r c : Int) (w : World) : Calls Try.prog 56 #[.agg #[.int .i64 r, .int .i64 c]] w fun e w' => (cells r c = 0 ∧ e = .returned (.tuple #[xV 0 0 (.slice none 0 0) 0, .int .i64 1]) ∧ Below w.heap.size w w') ∨
    ∃ g n, cells r c = (n : Nat) ∧ 1 ≤ n ∧ n ≤ 4096 ∧ e = .returned (.tuple #[xV r c (.slice (some ⟨g, 0, none⟩) n n) 0, .int .i64 0]) ∧ w'.ownsRow 0 58 5 (.slice (some ⟨g, 0, none⟩) n n) n (flatC (List.replicate n c0)) ∧ Below w.heap.size w w' ∧ w.heap.size ≤ g := by
  obtain ⟨h0, h1⟩ := cells_bd r c
  by_cases h : cells r c = 0
  · exact (rnew_no r c w h).mono fun e w' hh => .inl ⟨h, hh⟩
  · refine (rnew_yes r c (cells r c).toNat w (by omega) (by omega) (by omega)).mono fun e w' ⟨g, he, hp, hb, h1⟩ => .inr ⟨g, (cells r c).toNat, by omega, by omega, by omega, he, hp, hb, h1⟩
end Go.Proofs.Ytlcjiffnmpkndaa.Pl
