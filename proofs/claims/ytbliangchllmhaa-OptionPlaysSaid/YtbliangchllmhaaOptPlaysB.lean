/-
  The statements' helper that collects the options that are on, as far as is asked for: its contract.
-/
import Derived.Test.YtbliangchllmhaaOptPlaysA
namespace Go.Proofs.Ytbliangchllmhaa.Opt
open Go.RowKit Go.Shelf Base
attribute [local go_sem] Oper.semAt_some
set_option linter.unusedVariables false

/-- What the loop knows between two rounds. -/
def LI (s N : Nat) (w0 : World) (q : Nat) (pre : List Int) (W : World) : Prop :=
  (∃ v, Boxed W (s + 2) 22 v ∧ W.ownsRow (s + 1) 5 1 v pre.length (pre.map (Value.int .u8)) ∧ (∀ g, v.ownBlock = some g → g = s + 1 ∨ N ≤ g)) ∧ Boxed W s 3 (.int .i64 q) ∧ Below s w0 W ∧ N ≤ W.heap.size
theorem LI.own (s N : Nat) (w0 : World) (q : Nat) (B : Nat) (hs : s ≤ B) : OwnFrom B (LI s N w0 q) := by
  rintro pre X Y row ⟨⟨v, hv, hr, hg⟩, hq, hb, hN⟩ hgr hrow
  have hbox : ∀ {k t u}, Boxed X k t u → some k ≠ row := by
    intro k t u h e
    obtain ⟨_, o, ho, hc⟩ := hrow k e.symm
    rw [show X.heap[k]? = _ from h] at ho; cases ho; cases hc
  refine ⟨⟨v, hv.kept hgr (hbox hv), hr.kept hgr ?_, hg⟩, hq.kept hgr (hbox hq), hb.grown hgr ?_ ?_, Nat.le_trans hN hgr.size⟩
  · rcases hr.2 with ⟨rfl, _⟩ | ⟨g, cap, cur, rfl, _, hgb, _⟩
    · exact .inl rfl
    · refine .inr fun e' => ?_
      obtain ⟨_, o, ho, hc⟩ := hrow g (by simpa [Value.ownBlock] using e'.symm)
      rw [hgb] at ho; cases ho; cases hc
  · have := hv.lt; omega
  · intro k e; have := (hrow k e).1; omega
theorem LI.append {s N q : Nat} {w0 W w1 : World} {pre : List Int} {x : Int} {v v' : Value} {tmp : Obj} (hs : s + 5 ≤ N) (hv : Boxed W (s + 2) 22 v) (hrow : W.ownsRow (s + 1) 5 1 v pre.length (pre.map (Value.int .u8)))
    (hg : ∀ g, v.ownBlock = some g → g = s + 1 ∨ N ≤ g) (hqb : Boxed W s 3 (.int .i64 q)) (hb : Below s w0 W) (hNW : N ≤ W.heap.size)
    (hown' : w1.ownsRow (s + 1) 5 1 v' (pre.length + 1) (pre.map (Value.int .u8) ++ [.int .u8 x])) (hgrow : (W.alloc tmp).grownBy w1 v.ownBlock) (hat : v'.ownBlock = v.ownBlock ∨ v'.ownBlock = some (W.alloc tmp).heap.size) :
    Boxed w1 (s + 2) 22 v ∧ Boxed w1 s 3 (.int .i64 q) ∧ Boxed (w1.setCell ⟨s + 2, 0, none⟩ v') (s + 2) 22 v' ∧ Boxed (w1.setCell ⟨s + 2, 0, none⟩ v') s 3 (.int .i64 q) ∧ KeepsOthers W (w1.setCell ⟨s + 2, 0, none⟩ v') ∧
      Hid (LI s N w0 q (pre ++ [x]) (w1.setCell ⟨s + 2, 0, none⟩ v') ∧ W.heap.size ≤ (w1.setCell ⟨s + 2, 0, none⟩ v').heap.size ∧ ∀ k, (s + 3 ≤ k ∧ k < N ∨ k < s) → (w1.setCell ⟨s + 2, 0, none⟩ v').heap[k]? = W.heap[k]?) := by
  obtain ⟨hv1, hv2, hr2, hk2, hb2⟩ := hv.appended (by decide) hrow (by omega) (by omega) hown' hgrow
  have hq1 : Boxed w1 s 3 (.int .i64 q) := (hqb.alloc tmp).kept hgrow (fun e => by rcases hg _ e.symm with h | h <;> omega)
  have hq2 := hq1.other (B' := s + 2) (by omega) v'
  refine ⟨hv1, hq1, hv2, hq2, hk2, ⟨⟨v', hv2, by simpa using hr2, ?_⟩, hq2, hb.trans (hb2.mono (by omega)), Nat.le_trans hNW hb2.size⟩, hb2.size, ?_⟩
  · intro g e
    rcases hat with h | h
    · exact hg g (by rw [← h]; exact e)
    · rw [h, World.size_alloc] at e; cases e; right; omega
  · intro k hk
    rw [Below.heap_setCell _ _ _ _ (by show k ≠ s + 2; omega), hgrow.block k (by rw [World.size_alloc]; omega) (fun e => by rcases hg _ e.symm with h | h <;> omega), Below.heap_alloc _ _ _ (by omega)]
set_option maxRecDepth 100000 in
set_option maxHeartbeats 1000000 in
theorem lall_in (m : Nat) (hm : 3 ≤ m) (b : Nat) (M : Nat → Bool) (S : Nat → Nat) (ours : Bool) (q : Nat) (hq : 1 ≤ q) (hq2 : q ≤ 256) (w : World) (hO : OptAt w b M S) :
    CallsIn Fence.wide m Try.prog 41 #[.pointer (some ⟨b, 0, none⟩), .bool ours, .int .i64 q] w fun e W' =>
      ∃ v, e = .returned v ∧ RowIn (fun k => w.heap.size ≤ k) .u8 W' v ((onL S ours 256).take q) ∧ Below w.heap.size w W' := by
  have h1 : 1 ≤ m := by omega
  obtain ⟨i0, hi, hz0, hz1, hz2⟩ := info_parts info_u8
  refine callsIn_of_wp_marks Try.func41 rfl trivial ?_ rfl
  simp only [Try.ntmps41, List.size_toArray, List.length_cons, List.length_nil, Nat.reduceAdd, Nat.reduceSub, Array.replicate_succ, Array.replicate_zero, List.push_toArray, List.append_toArray, List.nil_append, List.cons_append]
  gi_wp2_with fail
  refine ⟨trivial, ?_⟩
  refine (callsIn_wide.2 (oall_any b ours _)).mono ?_
  rintro e W' ⟨rfl, rfl⟩
  gi_wp2_with fail
  obtain ⟨s, hs⟩ : ∃ s, s = w.heap.size := ⟨_, rfl⟩
  obtain ⟨W0, hW0⟩ : ∃ W0, W0 = ((((w.alloc (.cells #[.int .i64 q] 3)).alloc (.cells #[] 5)).alloc (.cells #[.slice (some ⟨w.heap.size + 1, 0, none⟩) 0 0] 22)).alloc (.cells #[.pointer (some ⟨b, 0, none⟩)] 57)).alloc (.cells #[.bool ours] 4) := ⟨_, rfl⟩
  have z1 : ∀ o, (w.alloc o).heap.size = s + 1 := fun o => by rw [World.size_alloc, hs]
  have z2 : ∀ o o', ((w.alloc o).alloc o').heap.size = s + 1 + 1 := fun o o' => by rw [World.size_alloc, z1]
  have z3 : ∀ o o' p, (((w.alloc o).alloc o').alloc p).heap.size = s + 1 + 1 + 1 := fun o o' p => by rw [World.size_alloc, z2]
  have z4 : ∀ o o' p p', ((((w.alloc o).alloc o').alloc p).alloc p').heap.size = s + 1 + 1 + 1 + 1 := fun o o' p p' => by rw [World.size_alloc, z3]
  have hz : W0.heap.size = s + 5 := by rw [hW0, World.size_alloc, z4]
  have hb0 : Below w.heap.size w W0 := by
    rw [hW0]
    exact (((((Below.refl _ w).alloc (Nat.le_refl _) _).alloc (by simp) _).alloc (by simp; omega) _).alloc (by simp; omega) _).alloc (by simp; omega) _
  have q0 : Boxed W0 s 3 (.int .i64 q) := by rw [hW0, hs]; exact ((((Boxed.new w _ _).alloc _).alloc _).alloc _).alloc _
  have q1 : W0.heap[s + 1]? = some (.cells #[] 5 (0, 0)) := by
    rw [hW0, Below.heap_alloc _ _ _ (by rw [z4]; omega), Below.heap_alloc _ _ _ (by rw [z3]; omega), Below.heap_alloc _ _ _ (by rw [z2]; omega)]
    have := heap_alloc_new (w.alloc (.cells #[.int .i64 q] 3)) (.cells #[] 5)
    rw [z1] at this
    exact this
  have q2 : Boxed W0 (s + 2) 22 (.slice (some ⟨s + 1, 0, none⟩) 0 0) := by
    have := ((Boxed.new ((w.alloc (.cells #[.int .i64 q] 3)).alloc (.cells #[] 5)) 22 (.slice (some ⟨s + 1, 0, none⟩) 0 0)).alloc (.cells #[.pointer (some ⟨b, 0, none⟩)] 57)).alloc (.cells #[.bool ours] 4)
    rw [z2] at this
    rw [hW0, ← hs]
    exact this
  have f1 : W0.cell? ⟨s + 1 + 1 + 1, 0, none⟩ = some (.pointer (some ⟨b, 0, none⟩)) := by rw [hW0, hs]; simp [go_sem]
  have f2 : W0.cell? ⟨s + 1 + 1 + 1 + 1, 0, none⟩ = some (.bool ours) := by rw [hW0, hs]; simp [go_sem]
  have hO0 := hO.below hb0
  have hbl := hO.lt
  rw [← hs] at hbl
  have r1 : W0.ownsRow (s + 1) 5 1 (.slice (some ⟨s + 1, 0, none⟩) 0 0) 0 [] := ⟨by simp, .inr ⟨s + 1, 0, #[], rfl, Nat.le_refl _, q1, by simp, by simp [maxLen], by simp, by simp⟩⟩
  have hL0 : LI s (s + 5) W0 q [] W0 := ⟨⟨_, q2, r1, fun g e => .inl (by simpa [Value.ownBlock] using e.symm)⟩, q0, Below.refl _ _, by omega⟩
  rw [← hW0, ← hs]
  have HB0 := Lib.hid hb0
  have HS := Lib.hid hs
  have HZ := Lib.hid hz
  clear hW0 hb0 q0 q1 q2 r1 hs hz z1 z2 z3 z4 hO
  refine range_on 13 8 (n := m) (by omega) b (s + 1 + 1 + 1) (s + 1 + 1 + 1 + 1) M S ours rfl ⟨hO0, f1, f2⟩
    (fun pre W => LI s (s + 5) W0 q pre W ∧ pre.length < q)
    (fun c pre W => c = .exit 0 ∧ LI s (s + 5) W0 q pre W ∧ pre.length = q)
    (OwnFrom.and (LI.own s (s + 5) W0 q _ (by rw [HZ.out]; omega)) (ownFrom_pure _ _))
    (fun c => OwnFrom.and (ownFrom_pure _ _) (OwnFrom.and (LI.own s (s + 5) W0 q _ (by rw [HZ.out]; omega)) (ownFrom_pure _ _)))
    ⟨hL0, hq⟩ ?assign ?body ?done ?stop
  case assign =>
    intro l x W K hK
    gi_wp2
    exact hK
  case body =>
    rintro l pre x W ⟨⟨⟨v, hv, hrow, hg⟩, hqb, hb, hNW⟩, hlt⟩ _
    have hc := hv.cell
    have hqc := hqb.cell
    by_cases hfull : pre.length + 1 = q
    · have ht : ((pre.length : Int) + 1 == (q : Int)) = true := by simp; omega
      have HF := Lib.hid hfull
      clear hfull
      gi_wp2_with (gi_at_builtin; refine wpListIn_append_own_at _ rfl _ _ 22 rfl (s + 1) 5 i0 (.int .u8 0) 1 1 Try.underlying22 hi hz0 hz1 hz2 rfl (by decide) _ _ _ rfl (hrow.alloc _) ⟨W.heap.size, 0, none⟩ 1 1 [.int .u8 x] rfl rfl (cell_one_new _ _ _) (by simp [Value.oneCell']) (by unfold maxLen; omega) (by omega) (by simp; omega) ?_; intro v' w1 hown' hgrow _ hat; obtain ⟨hv1, hq1, hv2, hq2, hk2, hLI⟩ := LI.append (Nat.le_refl _) hv hrow hg hqb hb hNW hown' hgrow hat; obtain ⟨g', cap', rfl⟩ := ownsRow_succ hown'; have hc1 := hv1.cell; have hf1 := hv1.frozen; have hc2 := hv2.cell; have hqc1 := hq1.cell; have hqc2 := hq2.cell; clear hat hgrow hown')
      exact ⟨hk2.from _, rfl, hLI.out.1, by rw [List.length_append]; exact HF.out⟩
    · have ht : ((pre.length : Int) + 1 == (q : Int)) = false := by simp; omega
      have HF := Lib.hid hfull
      clear hfull
      gi_wp2_with (gi_at_builtin; refine wpListIn_append_own_at _ rfl _ _ 22 rfl (s + 1) 5 i0 (.int .u8 0) 1 1 Try.underlying22 hi hz0 hz1 hz2 rfl (by decide) _ _ _ rfl (hrow.alloc _) ⟨W.heap.size, 0, none⟩ 1 1 [.int .u8 x] rfl rfl (cell_one_new _ _ _) (by simp [Value.oneCell']) (by unfold maxLen; omega) (by omega) (by simp; omega) ?_; intro v' w1 hown' hgrow _ hat; obtain ⟨hv1, hq1, hv2, hq2, hk2, hLI⟩ := LI.append (Nat.le_refl _) hv hrow hg hqb hb hNW hown' hgrow hat; obtain ⟨g', cap', rfl⟩ := ownsRow_succ hown'; have hc1 := hv1.cell; have hf1 := hv1.frozen; have hc2 := hv2.cell; have hqc1 := hq1.cell; have hqc2 := hq2.cell; clear hat hgrow hown')
      refine ⟨hk2.from _, ⟨hLI.out.2.1, fun k hk => hLI.out.2.2 k ?_⟩, hLI.out.1, ?_⟩
      · rcases hk with rfl | rfl | rfl <;> omega
      · have := HF.out
        rw [List.length_append]
        show pre.length + 1 < q
        omega
  case done =>
    rintro D W hD ⟨⟨⟨v, hv, hrow, _⟩, _, hb, _⟩, hlt⟩ hK
    have hc := hv.cell
    gi_wp2
    refine ⟨by simp, .inl ⟨_, _, rfl, run_takeDeferred hK, ?_⟩⟩
    refine ⟨_, results_tmp rfl _ _ _, v, rfl, ?_, ?_⟩
    · rw [List.take_of_length_le (by omega)]
      exact (RowIn.of_owns (ownsRow_putObj hrow _ hK rfl)).mono fun k hk => by have := HS.out; omega
    · exact (HB0.out.trans (hb.mono (by have := HS.out; omega))).trans (belowK_b (w := w) (Nat.le_refl _) W D _ _ (by have := HZ.out; have := HS.out; omega) hK rfl rfl)
  case stop =>
    rintro D c pre W hD hpre ⟨rfl, ⟨⟨v, hv, hrow, _⟩, _, hb, _⟩, hlt⟩ hK
    have hc := hv.cell
    gi_wp2
    refine ⟨by simp, .inl ⟨_, _, rfl, run_takeDeferred hK, ?_⟩⟩
    refine ⟨_, results_tmp rfl _ _ _, v, rfl, ?_, ?_⟩
    · rw [← hlt, ← List.prefix_iff_eq_take.1 hpre]
      exact (RowIn.of_owns (ownsRow_putObj hrow _ hK rfl)).mono fun k hk => by have := HS.out; omega
    · exact (HB0.out.trans (hb.mono (by have := HS.out; omega))).trans (belowK_b (w := w) (Nat.le_refl _) W D _ _ (by have := HZ.out; have := HS.out; omega) hK rfl rfl)
theorem lall_any (b : Nat) (M : Nat → Bool) (S : Nat → Nat) (ours : Bool) (q : Nat) (hq : 1 ≤ q) (hq2 : q ≤ 256) (w : World) (hO : OptAt w b M S) :
    Calls Try.prog 41 #[.pointer (some ⟨b, 0, none⟩), .bool ours, .int .i64 q] w fun e W' =>
      ∃ v, e = .returned v ∧ RowIn (fun k => w.heap.size ≤ k) .u8 W' v ((onL S ours 256).take q) ∧ Below w.heap.size w W' :=
  callsIn_wide.1 (lall_in 3 (Nat.le_refl _) b M S ours q hq hq2 w hO)
end Go.Proofs.Ytbliangchllmhaa.Opt
