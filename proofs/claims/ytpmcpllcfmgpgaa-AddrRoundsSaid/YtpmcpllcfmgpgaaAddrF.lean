/-
  The helper of the statements that collects the places between two, as far as is asked for: its contract.
-/
import Derived.Test.YtpmcpllcfmgpgaaAddrE
import Derived.Maps.OwnIn
namespace Go.Proofs.Ytpmcpllcfmgpgaa
open Go.RowKit Go.Shelf
attribute [local go_sem] Oper.semAt_some

theorem info_int : (Try.prog.info? 3).map (fun i => (i.zero, i.size, i.bytes)) = some (some (.int .i64 0), 1, 8) := by kernel_rfl

theorem heap_four (w : World) (o1 o2 o3 o4 : Obj) :
    ((((w.alloc o1).alloc o2).alloc o3).alloc o4).heap[w.heap.size]? = some o1 ∧ ((((w.alloc o1).alloc o2).alloc o3).alloc o4).heap[w.heap.size + 1]? = some o2 ∧
    ((((w.alloc o1).alloc o2).alloc o3).alloc o4).heap[w.heap.size + 2]? = some o3 ∧ ((((w.alloc o1).alloc o2).alloc o3).alloc o4).heap[w.heap.size + 3]? = some o4 := by
  have a1 := World.alloc_heap_new w o1
  have a2 := World.alloc_heap_new (w.alloc o1) o2
  have a3 := World.alloc_heap_new ((w.alloc o1).alloc o2) o3
  have a4 := World.alloc_heap_new (((w.alloc o1).alloc o2).alloc o3) o4
  simp only [World.size_alloc] at a2 a3 a4
  refine ⟨?_, ?_, ?_, a4⟩
  · rw [Below.heap_alloc _ _ _ (by rw [World.size_alloc, World.size_alloc, World.size_alloc]; omega), Below.heap_alloc _ _ _ (by rw [World.size_alloc, World.size_alloc]; omega), Below.heap_alloc _ _ _ (by rw [World.size_alloc]; omega)]; exact a1
  · rw [Below.heap_alloc _ _ _ (by rw [World.size_alloc, World.size_alloc, World.size_alloc]; omega), Below.heap_alloc _ _ _ (by rw [World.size_alloc, World.size_alloc]; omega)]; exact a2
  · rw [Below.heap_alloc _ _ _ (by rw [World.size_alloc, World.size_alloc, World.size_alloc]; omega)]; exact a3

theorem ownsRow_base {w : World} {base base' : Nat} {e : TypeId} {size : Nat} {v : Value} {n : Nat} {xs : List Value} (h : w.ownsRow base e size v n xs) (hb : base' ≤ base) : w.ownsRow base' e size v n xs := by
  refine ⟨h.1, ?_⟩
  rcases h.2 with h2 | ⟨g, cap, cur, hv, hg, rest⟩
  · exact .inl h2
  · exact .inr ⟨g, cap, cur, hv, by omega, rest⟩

/-- What the loop knows between two rounds. -/
def LI (s N : Nat) (w0 : World) (q : Nat) (pre : List Int) (W : World) : Prop :=
  (∃ v, Boxed W (s + 3) 62 v ∧ W.ownsRow (s + 2) 3 1 v pre.length (pre.map (Value.int .i64)) ∧ (∀ g, v.ownBlock = some g → g = s + 2 ∨ N ≤ g)) ∧ Boxed W (s + 1) 3 (.int .i64 q) ∧ Below (s + 1) w0 W ∧ N ≤ W.heap.size

theorem LI.own (s N : Nat) (w0 : World) (q : Nat) (B : Nat) (hs : s + 1 ≤ B) : OwnFrom B (LI s N w0 q) := by
  rintro pre X Y row ⟨⟨v, hv, hr, hg⟩, hq, hb, hN⟩ hgr hrow
  have hbox : ∀ {k t u}, Boxed X k t u → some k ≠ row := by
    intro k t u h e
    obtain ⟨_, o, ho, hc⟩ := hrow k e.symm
    rw [show X.heap[k]? = _ from h] at ho; cases ho; cases hc
  refine ⟨⟨v, hv.kept hgr (hbox hv), hr.kept hgr ?_, hg⟩, hq.kept hgr (hbox hq), hb.grown hgr ?_ ?_, Nat.le_trans hN hgr.size⟩
  · rcases hr.2 with ⟨rfl, _⟩ | ⟨g, cap, cur, rfl, _, hgb, _⟩
    · exact .inl rfl
    · refine .inr fun e' => ?_
      obtain ⟨_, o, ho, hc⟩ := hrow g (by simpa [Value.ownBlock] using e'.symm)
      rw [hgb] at ho; cases ho; cases hc
  · have := hv.lt; omega
  · intro k e; have := (hrow k e).1; omega

theorem LI.append {s N q : Nat} {w0 W w1 : World} {pre : List Int} {x : Int} {v v' : Value} {tmp : Obj} (hs : s + 7 ≤ N) (hv : Boxed W (s + 3) 62 v) (hrow : W.ownsRow (s + 2) 3 1 v pre.length (pre.map (Value.int .i64)))
    (hg : ∀ g, v.ownBlock = some g → g = s + 2 ∨ N ≤ g) (hqb : Boxed W (s + 1) 3 (.int .i64 q)) (hb : Below (s + 1) w0 W) (hNW : N ≤ W.heap.size)
    (hown' : w1.ownsRow (s + 2) 3 1 v' (pre.length + 1) (pre.map (Value.int .i64) ++ [.int .i64 x])) (hgrow : (W.alloc tmp).grownBy w1 v.ownBlock) (hat : v'.ownBlock = v.ownBlock ∨ v'.ownBlock = some (W.alloc tmp).heap.size) :
    Boxed w1 (s + 3) 62 v ∧ Boxed w1 (s + 1) 3 (.int .i64 q) ∧ Boxed (w1.setCell ⟨s + 3, 0, none⟩ v') (s + 3) 62 v' ∧ Boxed (w1.setCell ⟨s + 3, 0, none⟩ v') (s + 1) 3 (.int .i64 q) ∧ KeepsOthers W (w1.setCell ⟨s + 3, 0, none⟩ v') ∧
      Hid (LI s N w0 q (pre ++ [x]) (w1.setCell ⟨s + 3, 0, none⟩ v') ∧ W.heap.size ≤ (w1.setCell ⟨s + 3, 0, none⟩ v').heap.size ∧ ∀ k, s + 4 ≤ k → k < N → (w1.setCell ⟨s + 3, 0, none⟩ v').heap[k]? = W.heap[k]?) := by
  obtain ⟨hv1, hv2, hr2, hk2, hb2⟩ := hv.appended (by decide) hrow (by omega) (by omega) hown' hgrow
  have hq1 : Boxed w1 (s + 1) 3 (.int .i64 q) := (hqb.alloc tmp).kept hgrow (fun e => by rcases hg _ e.symm with h | h <;> omega)
  have hq2 := hq1.other (B' := s + 3) (by omega) v'
  refine ⟨hv1, hq1, hv2, hq2, hk2, ⟨⟨v', hv2, by simpa using hr2, ?_⟩, hq2, hb.trans (hb2.mono (by omega)), Nat.le_trans hNW hb2.size⟩, hb2.size, ?_⟩
  · intro g e
    rcases hat with h | h
    · exact hg g (by rw [← h]; exact e)
    · rw [h, World.size_alloc] at e; cases e; right; omega
  · intro k h1 h2
    rw [Below.heap_setCell _ _ _ _ (by show k ≠ s + 3; omega), hgrow.block k (by rw [World.size_alloc]; omega) (fun e => by rcases hg _ e.symm with h | h <;> omega), Below.heap_alloc _ _ _ (by omega)]

set_option maxRecDepth 100000 in
set_option maxHeartbeats 1000000 in
theorem list_in (m : Nat) (hm : 3 ≤ m) (r c a b n : Int) (q : Nat) (hq : 1 ≤ q) (hq2 : q ≤ 5000) (w : World) (hn : Hid (cells r c = n)) :
    CallsIn Fence.wide m Try.prog 46 #[.agg #[.int .i64 r, .int .i64 c], .int .i64 a, .int .i64 b, .int .i64 q] w fun e W' =>
      ∃ v, e = .returned v ∧ W'.ownsRow w.heap.size 3 1 v ((betw n a b).take q).length (((betw n a b).take q).map (Value.int .i64)) ∧ Below w.heap.size w W' := by
  have h1 : 1 ≤ m := by omega
  obtain ⟨i0, hi, hz0, hz1, hz2⟩ := info_parts info_int
  refine callsIn_of_wp_marks Try.func46 rfl trivial ?_ rfl
  simp only [Try.ntmps46, List.size_toArray, List.length_cons, List.length_nil, Nat.reduceAdd, Nat.reduceSub, Array.replicate_succ, Array.replicate_zero, List.push_toArray, List.append_toArray, List.nil_append, List.cons_append]
  gi_wp2_with (refine ⟨trivial, ?_⟩; gi_at_call 60; refine (callsIn_wide.2 (between_any _ _ _ _ _ _ hn)).mono ?_; rintro e w' ⟨B, rfl, hI, hb, hBB⟩)
  obtain ⟨s, hs⟩ : ∃ s, s = w.heap.size := ⟨_, rfl⟩
  obtain ⟨_, f1, f2, f3⟩ := heap_four w (.cells #[.int .i64 r, .int .i64 c] 56) (.cells #[.int .i64 q] 3) (.cells #[] 3) (.cells #[.slice (some ⟨w.heap.size + 1 + 1, 0, none⟩) 0 0] 62)
  have q1 : Boxed w' (s + 1) 3 (.int .i64 q) := by
    rw [hs]; exact Boxed.kept (row := none) f1 (grown_of_below hb) (by simp)
  have q3 : Boxed w' (s + 3) 62 (.slice (some ⟨s + 2, 0, none⟩) 0 0) := by
    rw [hs]; exact Boxed.kept (row := none) f3 (grown_of_below hb) (by simp)
  have q2 : w'.ownsRow (s + 2) 3 1 (.slice (some ⟨s + 2, 0, none⟩) 0 0) 0 [] := by
    rw [hs]; exact World.ownsRow.kept (row := none) ⟨by simp, .inr ⟨w.heap.size + 2, 0, #[], rfl, Nat.le_refl _, f2, by simp, by simp [maxLen], by simp, by simp⟩⟩ (grown_of_below hb) (by simp [Value.ownBlock])
  have hB0 : Below w.heap.size w w' := (((((Below.refl _ w).alloc (Nat.le_refl _) _).alloc (by simp) _).alloc (by simp; omega) _).alloc (by simp; omega) _).trans (hb.mono (by simp; omega))
  simp only [World.size_alloc] at hI hBB
  have h4 := hI.1
  have hI4 := Lib.hid hI
  have HB := Lib.hid hb
  clear hb f1 f2 f3 hI
  obtain ⟨N, hN⟩ : ∃ N, N = w'.heap.size := ⟨_, rfl⟩
  have hsz : s + 7 ≤ N := by omega
  have HN := Lib.hid hN
  have hL0 : LI s N w' q [] w' := ⟨⟨_, q3, q2, fun g e => .inl (by simpa [Value.ownBlock] using e.symm)⟩, q1, Below.refl _ _, by omega⟩
  clear hN
  subst hs
  refine wpIn_rangeFunc_ownG rfl h1 (gf := 63) rfl trivial (enters_of Try.func63 (by kernel_rfl) rfl)
    (betw_stops (m - 1) (by omega) _ _ _ _ a n b r c hn w' hI4.out) Keep4.trans ?hKb (Below.refl _ _) (fun _ => rfl)
    (fun pre W => LI w.heap.size N w' q pre W ∧ pre.length < q)
    (fun c pre W => c = .exit 0 ∧ LI w.heap.size N w' q pre W ∧ pre.length = q)
    (OwnFrom.and (LI.own w.heap.size N w' q _ (by rw [← HN.out]; omega)) (ownFrom_pure _ _))
    (fun c => OwnFrom.and (ownFrom_pure _ _) (OwnFrom.and (LI.own w.heap.size N w' q _ (by rw [← HN.out]; omega)) (ownFrom_pure _ _)))
    ⟨hL0, hq⟩
    (fun x => { tmps := #[.agg #[.int .i64 r, .int .i64 c], .int .i64 a, .int .i64 b, .int .i64 q, .pointer (some ⟨w.heap.size, 0, none⟩), undef, undef, .pointer (some ⟨w.heap.size + 1, 0, none⟩), .slice none 0 0, .pointer (some ⟨w.heap.size + 1 + 1 + 1, 0, none⟩), .int .i64 x, .slice (some ⟨w.heap.size + 1 + 1, 0, none⟩) 0 0, .agg #[.int .i64 r, .int .i64 c], .int .i64 a, .int .i64 b, .func (.func 63) #[] #[.pointer (some ⟨w.heap.size + 1 + 1 + 1 + 1 + 1, 0, none⟩), .pointer (some ⟨B, 0, none⟩), .pointer (some ⟨w.heap.size + 1 + 1 + 1 + 1 + 2, 0, none⟩), .pointer (some ⟨w.heap.size + 1 + 1 + 1 + 1, 0, none⟩)], .int .i64 x, undef, undef, undef, undef, undef, undef, undef, undef, undef], defers := [] })
    ?assign ?body ?done ?stop
  case hKb =>
    intro W l o o' hl ho _ _
    refine ⟨(grownBy_putObj' W l o').size, fun k hk => (grownBy_putObj' W l o').block k ?_ ?_⟩
    · have := (Array.getElem?_eq_some_iff.1 ho).1
      rcases hk with rfl | rfl | rfl | rfl <;> omega
    · intro e; cases e
      rcases hk with rfl | rfl | rfl | rfl <;> omega
  case assign =>
    intro l x W K hK
    gi_wp2
    exact hK
  case body =>
    rintro l pre x W ⟨⟨⟨v, hv, hrow, hg⟩, hqb, hb, hNW⟩, hlt⟩ _
    have hc := hv.cell
    have hqc := hqb.cell
    by_cases hfull : pre.length + 1 = q
    · have ht : ((pre.length : Int) + 1 == (q : Int)) = true := by simp; omega
      have HF := Lib.hid hfull
      clear hfull
      gi_wp2_with (gi_at_builtin; refine wpListIn_append_own_at _ rfl _ _ 62 rfl (w.heap.size + 2) 3 i0 (.int .i64 0) 1 8 Try.underlying62 hi hz0 hz1 hz2 rfl (by decide) _ _ _ rfl (hrow.alloc _) ⟨W.heap.size, 0, none⟩ 1 1 [.int .i64 x] rfl rfl (cell_one_new _ _ _) (by simp [Value.oneCell']) (by unfold maxLen; omega) (by omega) (by simp; omega) ?_; intro v' w1 hown' hgrow _ hat; obtain ⟨hv1, hq1, hv2, hq2, hk2, hLI⟩ := LI.append hsz hv hrow hg hqb hb hNW hown' hgrow hat; obtain ⟨g', cap', rfl⟩ := ownsRow_succ hown'; have hc1 := hv1.cell; have hf1 := hv1.frozen; have hc2 := hv2.cell; have hqc1 := hq1.cell; have hqc2 := hq2.cell; clear hat hgrow hown')
      exact ⟨hk2.from _, rfl, hLI.out.1, by rw [List.length_append]; exact HF.out⟩
    · have ht : ((pre.length : Int) + 1 == (q : Int)) = false := by simp; omega
      have HF := Lib.hid hfull
      clear hfull
      gi_wp2_with (gi_at_builtin; refine wpListIn_append_own_at _ rfl _ _ 62 rfl (w.heap.size + 2) 3 i0 (.int .i64 0) 1 8 Try.underlying62 hi hz0 hz1 hz2 rfl (by decide) _ _ _ rfl (hrow.alloc _) ⟨W.heap.size, 0, none⟩ 1 1 [.int .i64 x] rfl rfl (cell_one_new _ _ _) (by simp [Value.oneCell']) (by unfold maxLen; omega) (by omega) (by simp; omega) ?_; intro v' w1 hown' hgrow _ hat; obtain ⟨hv1, hq1, hv2, hq2, hk2, hLI⟩ := LI.append hsz hv hrow hg hqb hb hNW hown' hgrow hat; obtain ⟨g', cap', rfl⟩ := ownsRow_succ hown'; have hc1 := hv1.cell; have hf1 := hv1.frozen; have hc2 := hv2.cell; have hqc1 := hq1.cell; have hqc2 := hq2.cell; clear hat hgrow hown')
      refine ⟨hk2.from _, ⟨hLI.out.2.1, fun k hk => hLI.out.2.2 k ?_ ?_⟩, hLI.out.1, ?_⟩
      · have hN := HN.out; rcases hk with rfl | rfl | rfl | rfl <;> omega
      · have hN := HN.out; rcases hk with rfl | rfl | rfl | rfl <;> omega
      · have := HF.out
        rw [List.length_append]
        show pre.length + 1 < q
        omega
  case done =>
    rintro D ys W hD rfl ⟨⟨⟨v, hv, hrow, _⟩, _, hb, _⟩, hlt⟩ hK
    have hc := hv.cell
    gi_wp2
    refine ⟨by simp, .inl ⟨_, _, rfl, run_takeDeferred hK, ?_⟩⟩
    refine ⟨_, results_tmp rfl _ _ _, v, rfl, ?_, ?_⟩
    · rw [List.take_of_length_le (by omega)]
      exact ownsRow_base (ownsRow_putObj hrow _ hK rfl) (by omega)
    · exact (hB0.trans (hb.mono (by omega))).trans (belowK_b (w := w) (Nat.le_refl _) W D _ _ (by omega) hK rfl rfl)
  case stop =>
    rintro D c pre W hD hpre ⟨rfl, ⟨⟨v, hv, hrow, _⟩, _, hb, _⟩, hlt⟩ hK
    have hc := hv.cell
    gi_wp2
    refine ⟨by simp, .inl ⟨_, _, rfl, run_takeDeferred hK, ?_⟩⟩
    refine ⟨_, results_tmp rfl _ _ _, v, rfl, ?_, ?_⟩
    · rw [← hlt, ← List.prefix_iff_eq_take.1 hpre]
      exact ownsRow_base (ownsRow_putObj hrow _ hK rfl) (by omega)
    · exact (hB0.trans (hb.mono (by omega))).trans (belowK_b (w := w) (Nat.le_refl _) W D _ _ (by omega) hK rfl rfl)

theorem list_any (r c a b n : Int) (q : Nat) (hq : 1 ≤ q) (hq2 : q ≤ 5000) (w : World) (hn : Hid (cells r c = n)) :
    Calls Try.prog 46 #[.agg #[.int .i64 r, .int .i64 c], .int .i64 a, .int .i64 b, .int .i64 q] w fun e W' =>
      ∃ v, e = .returned v ∧ W'.ownsRow w.heap.size 3 1 v ((betw n a b).take q).length (((betw n a b).take q).map (Value.int .i64)) ∧ Below w.heap.size w W' :=
  callsIn_wide.1 (list_in 3 (Nat.le_refl _) r c a b n q hq hq2 w hn)

end Go.Proofs.Ytpmcpllcfmgpgaa
