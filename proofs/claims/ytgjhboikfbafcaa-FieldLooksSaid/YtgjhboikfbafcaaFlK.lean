/-
  The law's places: a field's places, as far as is asked for.
-/
import Derived.Test.YtgjhboikfbafcaaFlJ
namespace Go.Proofs.Ytgjhboikfbafcaa.Pl
open Go.RowKit Go.Shelf Base
attribute [local go_sem] Oper.semAt_some
set_option linter.unusedVariables false
set_option linter.unusedSimpArgs false

theorem info_int' : (Try.prog.info? 3).map (fun i => (i.zero, i.size, i.bytes)) = some (some (.int .i64 0), 1, 8) := by kernel_rfl
structure LPI (w : World) (b g : Nat) (r c cur : Int) (L : List Cl) (f : Fd) (most : Int) (pre : List Int) (W : World) : Prop where
  pl : PlAt W b g r c cur L
  fb : W.heap[w.heap.size]? = some (.cells #[.int .i64 f.s, .int .i64 f.k, .int .u8 f.a] 39 (0, 0))
  mb : W.heap[w.heap.size + 1]? = some (.cells #[.int .i64 most] 3 (0, 0))
  gr : ∃ v, Gr W (w.heap.size + 2) (w.heap.size + 3) 41 3 1 pre.length (pre.map (Value.int .i64)) v
  it : PlcIt W (w.heap.size + 4) (w.heap.size + 5) b f
  tn : Turn (fun _ => False) w W
section
variable {w : World} {b g : Nat} {r c cur : Int} {L : List Cl} {f : Fd} {most : Int} {pre : List Int} {W W' : World}
theorem LPI.own (B : Nat) (hB : w.heap.size ≤ B) : OwnFrom B (LPI w b g r c cur L f most) := by
  intro s X Y row h hg hr
  have hr' : ∀ r, row = some r → ∃ o : Obj, X.heap[r]? = some o ∧ o.isCells = false := fun r e => (hr r e).2
  obtain ⟨v, hv⟩ := h.gr
  exact ⟨h.pl.grown hg hr', (cells_kept h.fb hg hr').trans h.fb, (cells_kept h.mb hg hr').trans h.mb, ⟨v, hv.grown hg hr'⟩, ⟨(cells_kept h.it.1 hg hr').trans h.it.1, (cells_kept h.it.2 hg hr').trans h.it.2⟩, h.tn.grown hg (fun k e => .inl (by have := (hr k e).1; omega))⟩
theorem LPI.next {v : Value} (h : LPI w b g r c cur L f most pre W) (hv : Gr W (w.heap.size + 2) (w.heap.size + 3) 41 3 1 pre.length (pre.map (Value.int .i64)) v) (x : Int) {o : Obj} {w1 : World} {v' : Value} {n' : Nat} {ys : List Value}
    (hgrow : (W.alloc o).grownBy w1 v.ownBlock) (hown' : w1.ownsRow 0 3 1 v' n' ys) (hn : n' = pre.length + 1) (hy : ys = pre.map (Value.int .i64) ++ [.int .i64 x]) (hat : v'.ownBlock = v.ownBlock ∨ v'.ownBlock = some (W.alloc o).heap.size) :
    LPI w b g r c cur L f most (pre ++ [x]) (w1.setCell ⟨w.heap.size + 3, 0, none⟩ v') ∧ Gr (w1.setCell ⟨w.heap.size + 3, 0, none⟩ v') (w.heap.size + 2) (w.heap.size + 3) 41 3 1 (pre ++ [x]).length ((pre ++ [x]).map (Value.int .i64)) v' ∧ Keep2 (w.heap.size + 4) (w.heap.size + 5) W (w1.setCell ⟨w.heap.size + 3, 0, none⟩ v') ∧ (∀ D, w.heap.size + 4 ≤ D → KeepsFrom D W (w1.setCell ⟨w.heap.size + 3, 0, none⟩ v')) ∧ w1.cell? ⟨w.heap.size + 3, 0, none⟩ = some v ∧ w1.frozen? ⟨w.heap.size + 3, 0, none⟩ = false ∧ w1.cell? ⟨w.heap.size + 1, 0, none⟩ = some (.int .i64 most) := by
  subst hn hy
  have l4 := lt_of_block h.it.1
  have l5 := lt_of_block h.it.2
  obtain ⟨g1, t1, c1, f1⟩ := hv.app (by decide) (by omega) (below_alloc W o) hgrow hown' hat
  have n4 := hv.not h.it.1 (by decide) (by omega)
  have n5 := hv.not h.it.2 (by decide) (by omega)
  obtain ⟨A, B, e1, e2⟩ := h.pl.blocks
  have hlt := h.pl.lt
  have ne : ∀ {k : Nat} {cs : Array Value} {ty : TypeId}, W.heap[k]? = some (.cells cs ty (0, 0)) → ty ≠ 41 → k ≠ w.heap.size + 3 := by
    rintro k cs ty hk h1 rfl
    rw [hv.bx] at hk; cases hk; exact h1 rfl
  have g2 : Gr (w1.setCell ⟨w.heap.size + 3, 0, none⟩ v') (w.heap.size + 2) (w.heap.size + 3) 41 3 1 (pre ++ [x]).length ((pre ++ [x]).map (Value.int .i64)) v' := by
    rw [List.map_append, List.length_append]; exact g1
  have k2 : Keep2 (w.heap.size + 4) (w.heap.size + 5) W (w1.setCell ⟨w.heap.size + 3, 0, none⟩ v') := Keep2.turn t1 l4 l5 n4 n5
  have m1 : w1.heap[w.heap.size + 1]? = some (.cells #[.int .i64 most] 3 (0, 0)) := (hgrow.block _ (Nat.lt_of_lt_of_le (lt_of_block h.mb) (below_alloc W o).size) (fun e => by have := hv.lo _ e.symm; omega)).trans (((below_alloc W o).block _ (lt_of_block h.mb)).trans h.mb)
  refine ⟨⟨?_, ?_, ?_, ⟨v', g2⟩, h.it.keep k2, ?_⟩, g2, k2, ?_, c1, f1, by simp [World.cell?, m1]⟩
  · exact h.pl.turn t1 (hv.not e1 (by decide) (ne e1 (by decide))) (hv.not e2 (by decide) (ne e2 (by decide)))
  · exact (t1.block _ (lt_of_block h.fb) (hv.not h.fb (by decide) (by omega))).trans h.fb
  · refine (t1.block _ (lt_of_block h.mb) ?_).trans h.mb
    rintro (e | e)
    · omega
    · have := hv.lo _ e; omega
  · have t2 : Turn (fun k => w.heap.size ≤ k) w (w1.setCell ⟨w.heap.size + 3, 0, none⟩ v') := (h.tn.mono fun k hk => hk.elim).trans (t1.mono fun k hk => by rcases hk with rfl | hk; exact Nat.le_add_right _ _; exact Nat.le_trans (Nat.le_add_right _ _) (hv.lo k hk))
    exact ⟨t2.os, t2.tape, t2.output, t2.size, fun k hk hn => t2.block k hk (by omega)⟩
  · intro D hD
    refine ⟨t1.size, fun k o' hk ho hc => (t1.block k (lt_of_block ho) ?_).trans ho⟩
    rintro (e | e)
    · omega
    · obtain ⟨cs, e'⟩ := row_typed hv.row k e; rw [ho] at e'; cases e'; cases hc
end
theorem take_all {α : Type} {xs : List α} {n : Nat} (h : xs.length ≤ n) : xs.take n = xs := List.take_of_length_le h
theorem prefix_take {α : Type} {pre xs : List α} (h : pre <+: xs) : xs.take pre.length = pre := by
  obtain ⟨t, rfl⟩ := h; simp
set_option maxRecDepth 100000 in
set_option maxHeartbeats 2000000 in
theorem lplaces_in {w : World} {b g : Nat} {r c cur : Int} {L : List Cl} (h : PlAt w b g r c cur L) (f : Fd) (most : Int) (hk : f.k ≤ 4096) (hmo : 1 ≤ most) :
    CallsIn Fence.wide 3 Try.prog 16 #[.pointer (some ⟨b, 0, none⟩), f.val, .int .i64 most] w fun e W => ∃ v, e = .returned v ∧ W.ownsRow 0 3 1 v ((placesL L.length f.s f.k).take most.toNat).length (((placesL L.length f.s f.k).take most.toNat).map (Value.int .i64)) ∧ (∀ j, v.ownBlock = some j → w.heap.size ≤ j) ∧ Below w.heap.size w W := by
  obtain ⟨i0, hi, hz0, hz1, hz2⟩ := info_parts info_int'
  obtain ⟨W0, hW0⟩ : ∃ W0, W0 = (((w.alloc (.cells #[.int .i64 f.s, .int .i64 f.k, .int .u8 f.a] 39)).alloc (.cells #[.int .i64 most] 3)).alloc (.cells #[] 3)).alloc (.cells #[.slice (some ⟨w.heap.size + 1 + 1, 0, none⟩) 0 0] 41) := ⟨_, rfl⟩
  have hbl : Below w.heap.size w W0 := by rw [hW0]; exact (((below_alloc w _).alloc (by simp) _).alloc (by simp; omega) _).alloc (by simp; omega) _
  have hsz0 : W0.heap.size = w.heap.size + 4 := by rw [hW0]; simp
  have hP0 := h.below hbl
  have e0 : W0.heap[w.heap.size]? = some (.cells #[.int .i64 f.s, .int .i64 f.k, .int .u8 f.a] 39 (0, 0)) := by
    rw [hW0, Below.heap_alloc _ _ _ (by simp; omega), Below.heap_alloc _ _ _ (by simp; omega), Below.heap_alloc _ _ _ (by simp)]; exact heap_alloc_new w _
  have e1 : W0.heap[w.heap.size + 1]? = some (.cells #[.int .i64 most] 3 (0, 0)) := by
    have := heap_alloc_new (w.alloc (.cells #[.int .i64 f.s, .int .i64 f.k, .int .u8 f.a] 39)) (.cells #[.int .i64 most] 3)
    simp only [World.size_alloc] at this
    rw [hW0, Below.heap_alloc _ _ _ (by simp), Below.heap_alloc _ _ _ (by simp)]; exact this
  have e3 : Gr W0 (w.heap.size + 2) (w.heap.size + 3) 41 3 1 0 [] (.slice (some ⟨w.heap.size + 1 + 1, 0, none⟩) 0 0) := by
    obtain ⟨V, hV⟩ : ∃ V, V = (w.alloc (.cells #[.int .i64 f.s, .int .i64 f.k, .int .u8 f.a] 39)).alloc (.cells #[.int .i64 most] 3) := ⟨_, rfl⟩
    have hVs : V.heap.size = w.heap.size + 1 + 1 := by rw [hV]; simp
    have hl := World.ownsRow_lit (base := 0) (e := 3) (size := 1) V #[] 0 (Nat.zero_le _) (by omega) (by simp)
    rw [hVs] at hl
    rw [hW0, ← hV]
    refine ⟨?_, hl.alloc _, ?_⟩
    · have := heap_alloc_new (V.alloc (.cells #[] 3)) (.cells #[.slice (some ⟨w.heap.size + 1 + 1, 0, none⟩) 0 0] 41)
      simp only [World.size_alloc, hVs] at this
      exact this
    · intro j hj; simp [Value.ownBlock] at hj; omega
  have q0 : W0.cell? ⟨w.heap.size, 0, none⟩ = some (.int .i64 f.s) := by simp [World.cell?, e0]
  have q1 : W0.cell? ⟨w.heap.size, 1, none⟩ = some (.int .i64 f.k) := by simp [World.cell?, e0]
  have q2 : W0.cell? ⟨w.heap.size, 2, none⟩ = some (.int .u8 f.a) := by simp [World.cell?, e0]
  have HW0 := Lib.hid hW0.symm
  have HP0 := Lib.hid hP0
  have E0 := Lib.hid e0
  have E1 := Lib.hid e1
  have E3 := Lib.hid e3
  have HBL := Lib.hid hbl
  have hm := h.most
  have hpl := h.pos
  clear hW0 hP0 e0 e1 e3 h hbl
  refine callsIn_of_wp_marks Try.func16 rfl trivial ?_ rfl
  simp only [Try.ntmps16, List.size_toArray, List.length_cons, List.length_nil, Nat.reduceAdd, Nat.reduceSub, Array.replicate_succ, Array.replicate_zero, List.push_toArray, List.append_toArray, List.nil_append, List.cons_append]
  gi_wp2_with fail
  rw [HW0.out]
  refine ⟨trivial, ?_⟩
  refine (callsIn_wide.2 (places_any W0 b f)).mono ?_
  rintro e W1 ⟨rfl, hI, hb1, hs1⟩
  rw [hsz0] at hI
  have hgW := grown_of_below hb1
  have H1 := Lib.hid (show LPI w b g r c cur L f most [] W1 from ⟨HP0.out.below hb1, (hb1.block _ (lt_of_block E0.out)).trans E0.out, (hb1.block _ (lt_of_block E1.out)).trans E1.out, ⟨_, E3.out.grown hgW (fun _ e => by cases e)⟩, hI, (Turn.of_below HBL.out).trans (Turn.of_below hb1)⟩)
  have hseq := places_seq 2 (by omega) (w.heap.size + 4) (w.heap.size + 5) b L.length f (by omega) W1 (by omega) hI
  have HSQ := Lib.hid hseq
  clear hI hseq hb1 q0 q1 q2 hgW
  gi_wp2_with fail
  refine range_ask (α := Int) rfl (by omega) (gf := 85) rfl trivial (enters_of Try.func85 (by kernel_rfl) rfl) HSQ.out Keep2.trans ?hKb (Below.refl _ _) (fun _ => rfl)
    (fun pre W => LPI w b g r c cur L f most pre W ∧ (pre.length : Int) < most) (fun _ W h => h.1.pl.n) (fun c' pre W => c' = .exit 0 ∧ LPI w b g r c cur L f most pre W ∧ (pre.length : Int) = most) (fun s X Y row h hg hr => ⟨LPI.own _ (by omega) s X Y row h.1 hg hr, h.2⟩) (fun c' s X Y row h hg hr => ⟨h.1, LPI.own _ (by omega) s X Y row h.2.1 hg hr, h.2.2⟩) ⟨H1.out, by simp; omega⟩
    (fun p a' _ => a' = { tmps := #[.pointer (some ⟨b, 0, none⟩), f.val, .int .i64 most, undef, .pointer (some ⟨w.heap.size, 0, none⟩), .pointer (some ⟨w.heap.size + 1, 0, none⟩), .slice none 0 0, .pointer (some ⟨w.heap.size + 1 + 1 + 1, 0, none⟩), .int .i64 p, .slice (some ⟨w.heap.size + 1 + 1, 0, none⟩) 0 0, .pointer (some ⟨b, 0, none⟩), f.val, .func (.func 85) #[] #[.pointer (some ⟨w.heap.size + 4, 0, none⟩), .pointer (some ⟨w.heap.size + 5, 0, none⟩)], .int .i64 p, undef, undef, undef, undef, undef, undef, undef, undef, undef], defers := [] })
    (fun _ _ _ _ _ _ h _ _ => h) ?assign ?body ?done ?stop
  case hKb =>
    intro W o o' ho hc
    have := lt_of_block ho
    exact Keep2.put W o' (by omega) (by omega) (by omega) (by omega)
  case assign =>
    intro l pre p W K hsp hWs hI' hK
    gi_wp2
    exact hK _ _ (KeepsFrom.refl _ _) (Keep2.refl _ _ _) hI' rfl
  case body =>
    rintro l pre x a' W hsp ⟨hI', hlm⟩ rfl hlt hWs
    rw [Nat.add_zero] at hWs
    obtain ⟨v, hv⟩ := hI'.gr
    have q3 : W.cell? ⟨w.heap.size + 1 + 1 + 1, 0, none⟩ = some v := by have := hv.bx; simp [World.cell?, this]
    have hle : (pre.length : Int) < 4096 := by
      have h1 := hsp.length_le
      have h2 : (placesL L.length f.s f.k).length ≤ 4096 := by
        unfold placesL; split
        · rw [first_length]; omega
        · simp
      simp at h1; omega
    have hown := hv.row
    have HI' := Lib.hid hI'
    have HV := Lib.hid hv
    clear hsp hI' hv hlt
    by_cases he : (pre.length : Int) + 1 = most
    · have hel : ((pre.length : Int) + 1 == most) = true := by simpa using he
      gi_wp2_with (gi_at_builtin; refine wpListIn_append_own_at _ rfl _ _ 41 rfl 0 3 i0 (.int .i64 0) 1 8 Try.underlying41 hi hz0 hz1 hz2 rfl (by decide) _ _ _ rfl (hown.alloc _) ⟨W.heap.size, 0, none⟩ 1 1 [.int .i64 x] rfl rfl (cell_one_new _ _ _) (by simp [Value.oneCell']) (by unfold maxLen; omega) (by omega) (Nat.zero_le _) ?_; intro v' w1 hown' hgrow _ hat
                   obtain ⟨hR, hG, hK2, hKF, hc1, hf1, hm1⟩ := HI'.out.next HV.out x hgrow hown' rfl rfl hat; obtain ⟨g', cap', rfl⟩ := ownsRow_succ hown'; have HR := Lib.hid hR; have HKK := Lib.hid hK2; have HKF := Lib.hid hKF; clear hat hgrow hown' hown hR hG hK2 hKF)
      exact ⟨HKF.out _ (by omega), rfl, HR.out, by simp; omega⟩
    · have hel : ((pre.length : Int) + 1 == most) = false := by simpa using he
      gi_wp2_with (gi_at_builtin; refine wpListIn_append_own_at _ rfl _ _ 41 rfl 0 3 i0 (.int .i64 0) 1 8 Try.underlying41 hi hz0 hz1 hz2 rfl (by decide) _ _ _ rfl (hown.alloc _) ⟨W.heap.size, 0, none⟩ 1 1 [.int .i64 x] rfl rfl (cell_one_new _ _ _) (by simp [Value.oneCell']) (by unfold maxLen; omega) (by omega) (Nat.zero_le _) ?_; intro v' w1 hown' hgrow _ hat
                   obtain ⟨hR, hG, hK2, hKF, hc1, hf1, hm1⟩ := HI'.out.next HV.out x hgrow hown' rfl rfl hat; obtain ⟨g', cap', rfl⟩ := ownsRow_succ hown'; have HR := Lib.hid hR; have HKK := Lib.hid hK2; have HKF := Lib.hid hKF; clear hat hgrow hown' hown hR hG hK2 hKF)
      exact ⟨HKF.out _ (by omega), HKK.out, HR.out, by simp; omega⟩
  case done =>
    rintro D ys W hD rfl ⟨hI', hlm⟩ hK
    obtain ⟨v, hv⟩ := hI'.gr
    have q3 : W.cell? ⟨w.heap.size + 1 + 1 + 1, 0, none⟩ = some v := by have := hv.bx; simp [World.cell?, this]
    have HI' := Lib.hid hI'
    have HV := Lib.hid hv
    clear hI' hv
    gi_wp2
    refine ⟨by simp, .inl ⟨_, _, rfl, run_takeDeferred hK, ?_⟩⟩
    refine ⟨_, results_tmp rfl _ _ _, v, rfl, ?_, ?_, ?_⟩
    · rw [take_all (by omega)]
      exact row_grown HV.out.row (grownBy_putObj' W D (.deferred none)) (fun r e => by cases e; exact ⟨_, hK, rfl⟩)
    · intro j hj; have := HV.out.lo j hj; omega
    · exact (HI'.out.tn.grown (grownBy_putObj' W D (.deferred none)) (fun k e => by cases e; left; omega)).below (Nat.le_refl _) (fun k hk => hk.elim)
  case stop =>
    rintro D c' pre W hD hpre ⟨rfl, hI', hlm⟩ hK
    obtain ⟨v, hv⟩ := hI'.gr
    have q3 : W.cell? ⟨w.heap.size + 1 + 1 + 1, 0, none⟩ = some v := by have := hv.bx; simp [World.cell?, this]
    have HI' := Lib.hid hI'
    have HV := Lib.hid hv
    have HPRE := Lib.hid hpre
    clear hI' hv hpre
    gi_wp2
    refine ⟨by simp, .inl ⟨_, _, rfl, run_takeDeferred hK, ?_⟩⟩
    refine ⟨_, results_tmp rfl _ _ _, v, rfl, ?_, ?_, ?_⟩
    · rw [show most.toNat = pre.length by omega, prefix_take HPRE.out]
      exact row_grown HV.out.row (grownBy_putObj' W D (.deferred none)) (fun r e => by cases e; exact ⟨_, hK, rfl⟩)
    · intro j hj; have := HV.out.lo j hj; omega
    · exact (HI'.out.tn.grown (grownBy_putObj' W D (.deferred none)) (fun k e => by cases e; left; omega)).below (Nat.le_refl _) (fun k hk => hk.elim)
theorem lplaces_any {w : World} {b g : Nat} {r c cur : Int} {L : List Cl} (h : PlAt w b g r c cur L) (f : Fd) (most : Int) (hk : f.k ≤ 4096) (hmo : 1 ≤ most) :
    Calls Try.prog 16 #[.pointer (some ⟨b, 0, none⟩), f.val, .int .i64 most] w fun e W => ∃ v, e = .returned v ∧ W.ownsRow 0 3 1 v ((placesL L.length f.s f.k).take most.toNat).length (((placesL L.length f.s f.k).take most.toNat).map (Value.int .i64)) ∧ (∀ j, v.ownBlock = some j → w.heap.size ≤ j) ∧ Below w.heap.size w W :=
  callsIn_wide.1 (lplaces_in h f most hk hmo)
end Go.Proofs.Ytgjhboikfbafcaa.Pl
