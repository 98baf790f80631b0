/-
  The law's fields: all fields, as far as is asked for.
-/
import Derived.Test.YtgjhboikfbafcaaFlK
namespace Go.Proofs.Ytgjhboikfbafcaa.Pl
open Go.RowKit Go.Shelf Base
attribute [local go_sem] Oper.semAt_some
set_option linter.unusedVariables false
set_option linter.unusedSimpArgs false

theorem info_fd : (Try.prog.info? 39).map (fun i => (i.zero, i.size, i.bytes)) = some (some (.agg #[.int .i64 0, .int .i64 0, .int .u8 0]), 3, 24) := by kernel_rfl
theorem cell_three_new (w : World) (x y z : Value) (t : TypeId) : ∀ (j : Nat) (u : Value), [x, y, z][j]? = some u → (w.alloc (.cells #[x, y, z] t)).cell? ((⟨w.heap.size, 0, none⟩ : Addr).add j) = some u
  | 0, u, h => by simp at h; subst h; simp [go_sem, Addr.add]
  | 1, u, h => by simp at h; subst h; simp [go_sem, Addr.add]
  | 2, u, h => by simp at h; subst h; simp [go_sem, Addr.add]
  | j + 3, u, h => by simp at h
def flatF (xs : List Fd) : List Value := xs.flatMap fun f => [.int .i64 f.s, .int .i64 f.k, .int .u8 f.a]
theorem flatF_snoc (xs : List Fd) (f : Fd) : flatF (xs ++ [f]) = flatF xs ++ [.int .i64 f.s, .int .i64 f.k, .int .u8 f.a] := by simp [flatF]
structure LAI (w : World) (b g : Nat) (r c cur : Int) (L : List Cl) (most : Int) (pre : List Fd) (W : World) : Prop where
  pl : PlAt W b g r c cur L
  mb : W.heap[w.heap.size]? = some (.cells #[.int .i64 most] 3 (0, 0))
  gr : ∃ v, Gr W (w.heap.size + 1) (w.heap.size + 2) 33 39 3 pre.length (flatF pre) v
  it : AllIt W (w.heap.size + 3) b
  tn : Turn (fun _ => False) w W
section
variable {w : World} {b g : Nat} {r c cur : Int} {L : List Cl} {most : Int} {pre : List Fd} {W W' : World}
theorem LAI.own (B : Nat) (hB : w.heap.size ≤ B) : OwnFrom B (LAI w b g r c cur L most) := by
  intro s X Y row h hg hr
  have hr' : ∀ r, row = some r → ∃ o : Obj, X.heap[r]? = some o ∧ o.isCells = false := fun r e => (hr r e).2
  obtain ⟨v, hv⟩ := h.gr
  exact ⟨h.pl.grown hg hr', (cells_kept h.mb hg hr').trans h.mb, ⟨v, hv.grown hg hr'⟩, (cells_kept h.it hg hr').trans h.it, h.tn.grown hg (fun k e => .inl (by have := (hr k e).1; omega))⟩
theorem LAI.next {v : Value} (h : LAI w b g r c cur L most pre W) (hv : Gr W (w.heap.size + 1) (w.heap.size + 2) 33 39 3 pre.length (flatF pre) v) (x : Fd) {o : Obj} {w1 : World} {v' : Value} {n' : Nat} {ys : List Value}
    (hgrow : (W.alloc o).grownBy w1 v.ownBlock) (hown' : w1.ownsRow 0 39 3 v' n' ys) (hn : n' = pre.length + 1) (hy : ys = flatF pre ++ [.int .i64 x.s, .int .i64 x.k, .int .u8 x.a]) (hat : v'.ownBlock = v.ownBlock ∨ v'.ownBlock = some (W.alloc o).heap.size) :
    LAI w b g r c cur L most (pre ++ [x]) (w1.setCell ⟨w.heap.size + 2, 0, none⟩ v') ∧ Gr (w1.setCell ⟨w.heap.size + 2, 0, none⟩ v') (w.heap.size + 1) (w.heap.size + 2) 33 39 3 (pre ++ [x]).length (flatF (pre ++ [x])) v' ∧ Keep2 (w.heap.size + 3) (w.heap.size + 3) W (w1.setCell ⟨w.heap.size + 2, 0, none⟩ v') ∧ (∀ D, w.heap.size + 3 ≤ D → KeepsFrom D W (w1.setCell ⟨w.heap.size + 2, 0, none⟩ v')) ∧ w1.cell? ⟨w.heap.size + 2, 0, none⟩ = some v ∧ w1.frozen? ⟨w.heap.size + 2, 0, none⟩ = false ∧ w1.cell? ⟨w.heap.size, 0, none⟩ = some (.int .i64 most) := by
  subst hn hy
  have l4 := lt_of_block h.it
  obtain ⟨g1, t1, c1, f1⟩ := hv.app (by decide) (by omega) (below_alloc W o) hgrow hown' hat
  have n4 := hv.not h.it (by decide) (by omega)
  obtain ⟨A, B, e1, e2⟩ := h.pl.blocks
  have hlt := h.pl.lt
  have ne : ∀ {k : Nat} {cs : Array Value} {ty : TypeId}, W.heap[k]? = some (.cells cs ty (0, 0)) → ty ≠ 33 → k ≠ w.heap.size + 2 := by
    rintro k cs ty hk h1 rfl
    rw [hv.bx] at hk; cases hk; exact h1 rfl
  have g2 : Gr (w1.setCell ⟨w.heap.size + 2, 0, none⟩ v') (w.heap.size + 1) (w.heap.size + 2) 33 39 3 (pre ++ [x]).length (flatF (pre ++ [x])) v' := by
    rw [flatF_snoc, List.length_append]; exact g1
  have k2 : Keep2 (w.heap.size + 3) (w.heap.size + 3) W (w1.setCell ⟨w.heap.size + 2, 0, none⟩ v') := Keep2.turn t1 l4 l4 n4 n4
  have m1 : w1.heap[w.heap.size]? = some (.cells #[.int .i64 most] 3 (0, 0)) := (hgrow.block _ (Nat.lt_of_lt_of_le (lt_of_block h.mb) (below_alloc W o).size) (fun e => by have := hv.lo _ e.symm; omega)).trans (((below_alloc W o).block _ (lt_of_block h.mb)).trans h.mb)
  refine ⟨⟨?_, ?_, ⟨v', g2⟩, k2.2.1.trans h.it, ?_⟩, g2, k2, ?_, c1, f1, by simp [World.cell?, m1]⟩
  · exact h.pl.turn t1 (hv.not e1 (by decide) (ne e1 (by decide))) (hv.not e2 (by decide) (ne e2 (by decide)))
  · refine (t1.block _ (lt_of_block h.mb) ?_).trans h.mb
    rintro (e | e)
    · omega
    · have := hv.lo _ e; omega
  · have t2 : Turn (fun k => w.heap.size ≤ k) w (w1.setCell ⟨w.heap.size + 2, 0, none⟩ v') := (h.tn.mono fun k hk => hk.elim).trans (t1.mono fun k hk => by rcases hk with rfl | hk; exact Nat.le_add_right _ _; exact Nat.le_trans (Nat.le_add_right _ _) (hv.lo k hk))
    exact ⟨t2.os, t2.tape, t2.output, t2.size, fun k hk hn => t2.block k hk (by omega)⟩
  · intro D hD
    refine ⟨t1.size, fun k o' hk ho hc => (t1.block k (lt_of_block ho) ?_).trans ho⟩
    rintro (e | e)
    · omega
    · obtain ⟨cs, e'⟩ := row_typed hv.row k e; rw [ho] at e'; cases e'; cases hc
end
set_option maxRecDepth 100000 in
set_option maxHeartbeats 2000000 in
theorem lall_in {w : World} {b g : Nat} {r c cur : Int} {L : List Cl} (h : PlAt w b g r c cur L) (hbo : BoL L) (most : Int) (hmo : 1 ≤ most) :
    CallsIn Fence.wide 3 Try.prog 10 #[.pointer (some ⟨b, 0, none⟩), .int .i64 most] w fun e W => ∃ v, e = .returned v ∧ W.ownsRow 0 39 3 v ((allL L).take most.toNat).length (flatF ((allL L).take most.toNat)) ∧ (∀ j, v.ownBlock = some j → w.heap.size ≤ j) ∧ Below w.heap.size w W := by
  obtain ⟨i0, hi, hz0, hz1, hz2⟩ := info_parts info_fd
  obtain ⟨W0, hW0⟩ : ∃ W0, W0 = ((w.alloc (.cells #[.int .i64 most] 3)).alloc (.cells #[] 39)).alloc (.cells #[.slice (some ⟨w.heap.size + 1, 0, none⟩) 0 0] 33) := ⟨_, rfl⟩
  have hbl : Below w.heap.size w W0 := by rw [hW0]; exact ((below_alloc w _).alloc (by simp) _).alloc (by simp; omega) _
  have hsz0 : W0.heap.size = w.heap.size + 3 := by rw [hW0]; simp
  have hP0 := h.below hbl
  have e1 : W0.heap[w.heap.size]? = some (.cells #[.int .i64 most] 3 (0, 0)) := by
    rw [hW0, Below.heap_alloc _ _ _ (by simp; omega), Below.heap_alloc _ _ _ (by simp)]; exact heap_alloc_new w _
  have e3 : Gr W0 (w.heap.size + 1) (w.heap.size + 2) 33 39 3 0 [] (.slice (some ⟨w.heap.size + 1, 0, none⟩) 0 0) := by
    obtain ⟨V, hV⟩ : ∃ V, V = w.alloc (.cells #[.int .i64 most] 3) := ⟨_, rfl⟩
    have hVs : V.heap.size = w.heap.size + 1 := by rw [hV]; simp
    have hl := World.ownsRow_lit (base := 0) (e := 39) (size := 3) V #[] 0 (Nat.zero_le _) (by omega) (by simp)
    rw [hVs] at hl
    rw [hW0, ← hV]
    refine ⟨?_, hl.alloc _, ?_⟩
    · have := heap_alloc_new (V.alloc (.cells #[] 39)) (.cells #[.slice (some ⟨w.heap.size + 1, 0, none⟩) 0 0] 33)
      simp only [World.size_alloc, hVs] at this
      exact this
    · intro j hj; simp [Value.ownBlock] at hj; omega
  have hl := allK_most L (fun _ => L) L.length
  have HW0 := Lib.hid hW0.symm
  have HP0 := Lib.hid hP0
  have E1 := Lib.hid e1
  have E3 := Lib.hid e3
  have HBL := Lib.hid hbl
  have hm := h.most
  have hpl := h.pos
  have HBO := Lib.hid hbo
  clear hW0 hP0 e1 e3 h hbl hbo
  refine callsIn_of_wp_marks Try.func10 rfl trivial ?_ rfl
  simp only [Try.ntmps10, List.size_toArray, List.length_cons, List.length_nil, Nat.reduceAdd, Nat.reduceSub, Array.replicate_succ, Array.replicate_zero, List.push_toArray, List.append_toArray, List.nil_append, List.cons_append]
  gi_wp2_with fail
  rw [HW0.out]
  refine ⟨trivial, ?_⟩
  refine (callsIn_wide.2 (all_any W0 b)).mono ?_
  rintro e W1 ⟨rfl, hI, hb1, hs1⟩
  rw [hsz0] at hI
  have hgW := grown_of_below hb1
  have H1 := Lib.hid (show LAI w b g r c cur L most [] W1 from ⟨HP0.out.below hb1, (hb1.block _ (lt_of_block E1.out)).trans E1.out, ⟨_, E3.out.grown hgW (fun _ e => by cases e)⟩, hI, (Turn.of_below HBL.out).trans (Turn.of_below hb1)⟩)
  have hseq := all_seq 2 (by omega) (w.heap.size + 3) b g r c cur L (fun _ => L) (fun pre i => rfl) (fun pre => rfl) (fun pre => HBO.out) W1 (by omega) hI
  have HSQ := Lib.hid hseq
  clear hI hseq hb1 hgW
  gi_wp2_with fail
  refine range_ask (α := Fd) rfl (by omega) (gf := 83) rfl trivial (enters_of Try.func83 (by kernel_rfl) rfl) HSQ.out Keep2.trans ?hKb (Below.refl _ _) (fun _ => rfl)
    (fun pre W => LAI w b g r c cur L most pre W ∧ (pre.length : Int) < most) (fun _ W h => h.1.pl) (fun c' pre W => c' = .exit 0 ∧ LAI w b g r c cur L most pre W ∧ (pre.length : Int) = most) (fun s X Y row h hg hr => ⟨LAI.own _ (by omega) s X Y row h.1 hg hr, h.2⟩) (fun c' s X Y row h hg hr => ⟨h.1, LAI.own _ (by omega) s X Y row h.2.1 hg hr, h.2.2⟩) ⟨H1.out, by simp; omega⟩
    (fun f a' W => ∃ B, w.heap.size + 3 < B ∧ W.heap[B]? = some (.cells #[.int .i64 f.s, .int .i64 f.k, .int .u8 f.a] 39 (0, 0)) ∧ a' = { tmps := #[.pointer (some ⟨b, 0, none⟩), .int .i64 most, undef, .pointer (some ⟨w.heap.size, 0, none⟩), .slice none 0 0, .pointer (some ⟨w.heap.size + 1 + 1, 0, none⟩), .pointer (some ⟨B, 0, none⟩), .slice (some ⟨w.heap.size + 1, 0, none⟩) 0 0, .pointer (some ⟨b, 0, none⟩), .func (.func 83) #[] #[.pointer (some ⟨w.heap.size + 3, 0, none⟩)], f.val, undef, undef, undef, undef, undef, undef, undef, undef, undef], defers := [] })
    ?hAx ?assign ?body ?done ?stop
  case hKb =>
    intro W o o' ho hc
    have := lt_of_block ho
    exact Keep2.put W o' (by omega) (by omega) (by omega) (by omega)
  case hAx =>
    rintro f a' s X Y row ⟨B, h1, h2, h3⟩ hg hr
    exact ⟨B, h1, (cells_kept h2 hg (fun r e => (hr r e).2)).trans h2, h3⟩
  case assign =>
    intro l pre f W K hsp hWs hI' hK
    rw [Nat.add_zero] at hWs
    have HI' := Lib.hid hI'
    clear hI'
    gi_wp2
    have hb := below_alloc W (.cells #[.int .i64 f.s, .int .i64 f.k, .int .u8 f.a] 39)
    exact hK _ _ (keepsB hb) (Keep2.turn (S := fun _ => False) (Turn.of_below hb) (by omega) (by omega) (by simp) (by simp)) ⟨LAI.own W.heap.size (by omega) pre W _ none HI'.out.1 (grown_of_below hb) (fun _ e => by cases e), HI'.out.2⟩ ⟨W.heap.size, by omega, heap_alloc_new _ _, rfl⟩
  case body =>
    rintro l pre f a' W hsp ⟨hI', hlm⟩ ⟨B, hB1, hB2, rfl⟩ hlt hWs
    rw [Nat.add_zero] at hWs
    obtain ⟨v, hv⟩ := hI'.gr
    have q3 : W.cell? ⟨w.heap.size + 1 + 1, 0, none⟩ = some v := by have := hv.bx; simp [World.cell?, this]
    have hle : (pre.length : Int) < 4096 := by omega
    have q4 : W.cell? ⟨B, 0, none⟩ = some (.int .i64 f.s) := by simp [World.cell?, hB2]
    have q5 : W.cell? ⟨B, 1, none⟩ = some (.int .i64 f.k) := by simp [World.cell?, hB2]
    have q6 : W.cell? ⟨B, 2, none⟩ = some (.int .u8 f.a) := by simp [World.cell?, hB2]
    clear hB2
    have hown := hv.row
    have HI' := Lib.hid hI'
    have HV := Lib.hid hv
    clear hsp hI' hv hlt
    by_cases he : (pre.length : Int) + 1 = most
    · have hel : ((pre.length : Int) + 1 == most) = true := by simpa using he
      gi_wp2_with (gi_at_builtin; refine wpListIn_append_own_at _ rfl _ _ 33 rfl 0 39 i0 (.agg #[.int .i64 0, .int .i64 0, .int .u8 0]) 3 24 Try.underlying33 hi hz0 hz1 hz2 rfl (by decide) _ _ _ rfl (hown.alloc _) ⟨W.heap.size, 0, none⟩ 1 1 [.int .i64 f.s, .int .i64 f.k, .int .u8 f.a] rfl rfl (cell_three_new _ _ _ _ _) (by simp [Value.oneCell']) (by unfold maxLen; omega) (by omega) (Nat.zero_le _) ?_; intro v' w1 hown' hgrow _ hat
                   obtain ⟨hR, hG, hK2, hKF, hc1, hf1, hm1⟩ := HI'.out.next HV.out f hgrow hown' rfl rfl hat; obtain ⟨g', cap', rfl⟩ := ownsRow_succ hown'; have HR := Lib.hid hR; have HKK := Lib.hid hK2; have HKF := Lib.hid hKF; clear hat hgrow hown' hown hR hG hK2 hKF)
      exact ⟨HKF.out _ (by omega), rfl, HR.out, by simp; omega⟩
    · have hel : ((pre.length : Int) + 1 == most) = false := by simpa using he
      gi_wp2_with (gi_at_builtin; refine wpListIn_append_own_at _ rfl _ _ 33 rfl 0 39 i0 (.agg #[.int .i64 0, .int .i64 0, .int .u8 0]) 3 24 Try.underlying33 hi hz0 hz1 hz2 rfl (by decide) _ _ _ rfl (hown.alloc _) ⟨W.heap.size, 0, none⟩ 1 1 [.int .i64 f.s, .int .i64 f.k, .int .u8 f.a] rfl rfl (cell_three_new _ _ _ _ _) (by simp [Value.oneCell']) (by unfold maxLen; omega) (by omega) (Nat.zero_le _) ?_; intro v' w1 hown' hgrow _ hat
                   obtain ⟨hR, hG, hK2, hKF, hc1, hf1, hm1⟩ := HI'.out.next HV.out f hgrow hown' rfl rfl hat; obtain ⟨g', cap', rfl⟩ := ownsRow_succ hown'; have HR := Lib.hid hR; have HKK := Lib.hid hK2; have HKF := Lib.hid hKF; clear hat hgrow hown' hown hR hG hK2 hKF)
      exact ⟨HKF.out _ (by omega), HKK.out, HR.out, by simp; omega⟩
  case done =>
    rintro D ys W hD rfl ⟨hI', hlm⟩ hK
    obtain ⟨v, hv⟩ := hI'.gr
    have q3 : W.cell? ⟨w.heap.size + 1 + 1, 0, none⟩ = some v := by have := hv.bx; simp [World.cell?, this]
    have HI' := Lib.hid hI'
    have HV := Lib.hid hv
    clear hI' hv
    gi_wp2
    refine ⟨by simp, .inl ⟨_, _, rfl, run_takeDeferred hK, ?_⟩⟩
    refine ⟨_, results_tmp rfl _ _ _, v, rfl, ?_, ?_, ?_⟩
    · rw [take_all (by unfold allL; omega)]
      unfold allL
      exact row_grown HV.out.row (grownBy_putObj' W D (.deferred none)) (fun r e => by cases e; exact ⟨_, hK, rfl⟩)
    · intro j hj; have := HV.out.lo j hj; omega
    · exact (HI'.out.tn.grown (grownBy_putObj' W D (.deferred none)) (fun k e => by cases e; left; omega)).below (Nat.le_refl _) (fun k hk => hk.elim)
  case stop =>
    rintro D c' pre W hD hpre ⟨rfl, hI', hlm⟩ hK
    obtain ⟨v, hv⟩ := hI'.gr
    have q3 : W.cell? ⟨w.heap.size + 1 + 1, 0, none⟩ = some v := by have := hv.bx; simp [World.cell?, this]
    have HI' := Lib.hid hI'
    have HV := Lib.hid hv
    have HPRE := Lib.hid hpre
    clear hI' hv hpre
    gi_wp2
    refine ⟨by simp, .inl ⟨_, _, rfl, run_takeDeferred hK, ?_⟩⟩
    refine ⟨_, results_tmp rfl _ _ _, v, rfl, ?_, ?_, ?_⟩
    · rw [show most.toNat = pre.length by omega, show (allL L).take pre.length = pre from prefix_take HPRE.out]
      exact row_grown HV.out.row (grownBy_putObj' W D (.deferred none)) (fun r e => by cases e; exact ⟨_, hK, rfl⟩)
    · intro j hj; have := HV.out.lo j hj; omega
    · exact (HI'.out.tn.grown (grownBy_putObj' W D (.deferred none)) (fun k e => by cases e; left; omega)).below (Nat.le_refl _) (fun k hk => hk.elim)
theorem lall_any {w : World} {b g : Nat} {r c cur : Int} {L : List Cl} (h : PlAt w b g r c cur L) (hbo : BoL L) (most : Int) (hmo : 1 ≤ most) :
    Calls Try.prog 10 #[.pointer (some ⟨b, 0, none⟩), .int .i64 most] w fun e W => ∃ v, e = .returned v ∧ W.ownsRow 0 39 3 v ((allL L).take most.toNat).length (flatF ((allL L).take most.toNat)) ∧ (∀ j, v.ownBlock = some j → w.heap.size ≤ j) ∧ Below w.heap.size w W :=
  callsIn_wide.1 (lall_in h hbo most hmo)
end Go.Proofs.Ytgjhboikfbafcaa.Pl
