/-
  The bytes of a field.
-/
import Derived.Test.YtgjhboikfbafcaaInRound
namespace Go.Proofs.Ytgjhboikfbafcaa.Pl
open Go.RowKit Go.Shelf Base
attribute [local go_sem] Oper.semAt_some
set_option linter.unusedVariables false
set_option linter.unusedSimpArgs false

theorem info_byte' : (Try.prog.info? 5).map (fun i => (i.zero, i.size, i.bytes)) = some (some (.int .u8 0), 1, 1) := by kernel_rfl
def byteV (L : List Cl) (p : Int) : Value := .int .u8 (atL L p).b
structure DtI (w : World) (b g : Nat) (r c cur : Int) (L : List Cl) (f : Fd) (pre : List Int) (W : World) : Prop where
  pl : PlAt W b g r c cur L
  pb : W.heap[w.heap.size]? = some (.cells #[.pointer (some ⟨b, 0, none⟩)] 26 (0, 0))
  gr : ∃ v, Gr W (w.heap.size + 3) (w.heap.size + 2) 43 5 1 pre.length (pre.map (byteV L)) v
  it : PlcIt W (w.heap.size + 3) (w.heap.size + 4) b f
  tn : Turn (fun _ => False) w W
section
variable {w : World} {b g : Nat} {r c cur : Int} {L : List Cl} {f : Fd} {pre : List Int} {W W' : World}
theorem DtI.own (B : Nat) (hB : w.heap.size ≤ B) : OwnFrom B (DtI w b g r c cur L f) := by
  intro s X Y row h hg hr
  have hr' : ∀ r, row = some r → ∃ o : Obj, X.heap[r]? = some o ∧ o.isCells = false := fun r e => (hr r e).2
  obtain ⟨v, hv⟩ := h.gr
  exact ⟨h.pl.grown hg hr', (cells_kept h.pb hg hr').trans h.pb, ⟨v, hv.grown hg hr'⟩, ⟨(cells_kept h.it.1 hg hr').trans h.it.1, (cells_kept h.it.2 hg hr').trans h.it.2⟩, h.tn.grown hg (fun k e => .inl (by have := (hr k e).1; omega))⟩
theorem DtI.next {v : Value} (h : DtI w b g r c cur L f pre W) (hv : Gr W (w.heap.size + 3) (w.heap.size + 2) 43 5 1 pre.length (pre.map (byteV L)) v) (x : Int) {W1 : World} (hb : Below W.heap.size W W1) {w1 : World} {v' : Value} {n' : Nat} {ys : List Value}
    (hgrow : W1.grownBy w1 v.ownBlock) (hown' : w1.ownsRow 0 5 1 v' n' ys) (hn : n' = pre.length + 1) (hy : ys = pre.map (byteV L) ++ [byteV L x]) (hat : v'.ownBlock = v.ownBlock ∨ v'.ownBlock = some W1.heap.size) :
    DtI w b g r c cur L f (pre ++ [x]) (w1.setCell ⟨w.heap.size + 2, 0, none⟩ v') ∧ Keep2 (w.heap.size + 3) (w.heap.size + 4) W (w1.setCell ⟨w.heap.size + 2, 0, none⟩ v') ∧ (∀ D, w.heap.size + 3 ≤ D → KeepsFrom D W (w1.setCell ⟨w.heap.size + 2, 0, none⟩ v')) ∧ w1.cell? ⟨w.heap.size + 2, 0, none⟩ = some v ∧ w1.frozen? ⟨w.heap.size + 2, 0, none⟩ = false := by
  subst hn hy
  have l4 := lt_of_block h.it.1
  have l5 := lt_of_block h.it.2
  obtain ⟨g1, t1, c1, f1⟩ := hv.app (by decide) (by omega) hb hgrow hown' hat
  have n4 := hv.not h.it.1 (by decide) (by omega)
  have n5 := hv.not h.it.2 (by decide) (by omega)
  obtain ⟨A, B, e1, e2⟩ := h.pl.blocks
  have ne : ∀ {k : Nat} {cs : Array Value} {ty : TypeId}, W.heap[k]? = some (.cells cs ty (0, 0)) → ty ≠ 43 → k ≠ w.heap.size + 2 := by
    rintro k cs ty hk h1 rfl
    rw [hv.bx] at hk; cases hk; exact h1 rfl
  have g2 : Gr (w1.setCell ⟨w.heap.size + 2, 0, none⟩ v') (w.heap.size + 3) (w.heap.size + 2) 43 5 1 (pre ++ [x]).length ((pre ++ [x]).map (byteV L)) v' := by
    rw [List.map_append, List.length_append]; exact g1
  have k2 : Keep2 (w.heap.size + 3) (w.heap.size + 4) W (w1.setCell ⟨w.heap.size + 2, 0, none⟩ v') := Keep2.turn t1 l4 l5 n4 n5
  refine ⟨⟨?_, ?_, ⟨v', g2⟩, h.it.keep k2, ?_⟩, k2, ?_, c1, f1⟩
  · exact h.pl.turn t1 (hv.not e1 (by decide) (ne e1 (by decide))) (hv.not e2 (by decide) (ne e2 (by decide)))
  · exact (t1.block _ (lt_of_block h.pb) (hv.not h.pb (by decide) (by omega))).trans h.pb
  · have t2 : Turn (fun k => w.heap.size ≤ k) w (w1.setCell ⟨w.heap.size + 2, 0, none⟩ v') := (h.tn.mono fun k hk => hk.elim).trans (t1.mono fun k hk => by rcases hk with rfl | hk; exact Nat.le_add_right _ _; exact Nat.le_trans (Nat.le_add_right _ _) (hv.lo k hk))
    exact ⟨t2.os, t2.tape, t2.output, t2.size, fun k hk hn => t2.block k hk (by omega)⟩
  · intro D hD
    refine ⟨t1.size, fun k o' hk ho hc => (t1.block k (lt_of_block ho) ?_).trans ho⟩
    rintro (e | e)
    · omega
    · obtain ⟨cs, e'⟩ := row_typed hv.row k e; rw [ho] at e'; cases e'; cases hc
end
set_option maxRecDepth 100000 in
set_option maxHeartbeats 2000000 in
theorem data_in {w : World} {b g : Nat} {r c cur : Int} {L : List Cl} (h : PlAt w b g r c cur L) (f : Fd) (hk : f.k ≤ 4096) :
    CallsIn Fence.wide 3 Try.prog 18 #[.pointer (some ⟨b, 0, none⟩), f.val] w fun e W => ∃ v, e = .returned v ∧ W.ownsRow 0 5 1 v (placesL L.length f.s f.k).length ((placesL L.length f.s f.k).map (byteV L)) ∧ (∀ j, v.ownBlock = some j → w.heap.size ≤ j) ∧ Below w.heap.size w W := by
  obtain ⟨i0, hi, hz0, hz1, hz2⟩ := info_parts info_byte'
  obtain ⟨W0, hW0⟩ : ∃ W0, W0 = ((w.alloc (.cells #[.pointer (some ⟨b, 0, none⟩)] 26)).alloc (.cells #[.int .i64 f.s, .int .i64 f.k, .int .u8 f.a] 39)).alloc (.cells #[.slice none 0 0] 43) := ⟨_, rfl⟩
  have hbl : Below w.heap.size w W0 := by rw [hW0]; exact ((below_alloc w _).alloc (by simp) _).alloc (by simp; omega) _
  have hsz0 : W0.heap.size = w.heap.size + 3 := by rw [hW0]; simp
  have hP0 := h.below hbl
  have e0 : W0.heap[w.heap.size]? = some (.cells #[.pointer (some ⟨b, 0, none⟩)] 26 (0, 0)) := by
    rw [hW0, Below.heap_alloc _ _ _ (by simp; omega), Below.heap_alloc _ _ _ (by simp)]; exact heap_alloc_new w _
  have e1 : W0.heap[w.heap.size + 1]? = some (.cells #[.int .i64 f.s, .int .i64 f.k, .int .u8 f.a] 39 (0, 0)) := by
    have := heap_alloc_new (w.alloc (.cells #[.pointer (some ⟨b, 0, none⟩)] 26)) (.cells #[.int .i64 f.s, .int .i64 f.k, .int .u8 f.a] 39)
    simp only [World.size_alloc] at this
    rw [hW0, Below.heap_alloc _ _ _ (by simp)]; exact this
  have e3 : Gr W0 (w.heap.size + 3) (w.heap.size + 2) 43 5 1 0 [] (.slice none 0 0) := by
    refine ⟨?_, World.ownsRow_nil _ _ _ _, ?_⟩
    · have := heap_alloc_new ((w.alloc (.cells #[.pointer (some ⟨b, 0, none⟩)] 26)).alloc (.cells #[.int .i64 f.s, .int .i64 f.k, .int .u8 f.a] 39)) (.cells #[.slice none 0 0] 43)
      simp only [World.size_alloc] at this
      rw [hW0]; exact this
    · intro j hj; simp [Value.ownBlock] at hj
  have q0 : W0.cell? ⟨w.heap.size, 0, none⟩ = some (.pointer (some ⟨b, 0, none⟩)) := by simp [World.cell?, e0]
  have q1 : W0.cell? ⟨w.heap.size + 1, 0, none⟩ = some (.int .i64 f.s) := by simp [World.cell?, e1]
  have q2 : W0.cell? ⟨w.heap.size + 1, 1, none⟩ = some (.int .i64 f.k) := by simp [World.cell?, e1]
  have q3 : W0.cell? ⟨w.heap.size + 1, 2, none⟩ = some (.int .u8 f.a) := by simp [World.cell?, e1]
  have HW0 := Lib.hid hW0.symm
  have HP0 := Lib.hid hP0
  have E0 := Lib.hid e0
  have E3 := Lib.hid e3
  have HBL := Lib.hid hbl
  have hm := h.most
  have hpl := h.pos
  clear hW0 hP0 e0 e1 e3 h hbl
  refine callsIn_of_wp_marks Try.func18 rfl trivial ?_ rfl
  simp only [Try.ntmps18, List.size_toArray, List.length_cons, List.length_nil, Nat.reduceAdd, Nat.reduceSub, Array.replicate_succ, Array.replicate_zero, List.push_toArray, List.append_toArray, List.nil_append, List.cons_append]
  gi_wp2_with fail
  rw [HW0.out]
  gi_wp2_with fail
  refine ⟨trivial, ?_⟩
  refine (callsIn_wide.2 (places_any W0 b f)).mono ?_
  rintro e W1 ⟨rfl, hI, hb1, hs1⟩
  rw [hsz0] at hI
  have hgW := grown_of_below hb1
  have H1 := Lib.hid (show DtI w b g r c cur L f [] W1 from ⟨HP0.out.below hb1, (hb1.block _ (lt_of_block E0.out)).trans E0.out, ⟨_, E3.out.grown hgW (fun _ e => by cases e)⟩, hI, (Turn.of_below HBL.out).trans (Turn.of_below hb1)⟩)
  have hseq := places_seq 2 (by omega) (w.heap.size + 3) (w.heap.size + 4) b L.length f (by omega) W1 (by omega) hI
  have HSQ := Lib.hid hseq
  clear hI hseq hb1 q0 q1 q2 q3 hgW
  gi_wp2_with fail
  refine range_ask (α := Int) rfl (by omega) (gf := 85) rfl trivial (enters_of Try.func85 (by kernel_rfl) rfl) HSQ.out Keep2.trans ?hKb (Below.refl _ _) (fun _ => rfl)
    (DtI w b g r c cur L f) (fun _ W h => h.pl.n) (fun _ _ _ => False) (DtI.own _ (by omega)) (fun _ _ _ _ _ h _ _ => h) H1.out
    (fun p a' _ => a' = { tmps := #[.pointer (some ⟨b, 0, none⟩), f.val, .pointer (some ⟨w.heap.size, 0, none⟩), .pointer (some ⟨w.heap.size + 1, 0, none⟩), .slice none 0 0, .pointer (some ⟨w.heap.size + 1 + 1, 0, none⟩), .int .i64 p, .pointer (some ⟨b, 0, none⟩), f.val, .func (.func 85) #[] #[.pointer (some ⟨w.heap.size + 3, 0, none⟩), .pointer (some ⟨w.heap.size + 4, 0, none⟩)], .int .i64 p, undef, undef, undef, undef, undef, undef, undef, undef], defers := [] })
    (fun _ _ _ _ _ _ h _ _ => h) ?assign ?body ?done ?stop
  case hKb =>
    intro W o o' ho hc
    have := lt_of_block ho
    exact Keep2.put W o' (by omega) (by omega) (by omega) (by omega)
  case assign =>
    intro l pre p W K hsp hWs hI' hK
    gi_wp2
    exact hK _ _ (KeepsFrom.refl _ _) (Keep2.refl _ _ _) hI' rfl
  case body =>
    rintro l pre x a' W hsp hI' rfl hlt hWs
    rw [Nat.add_zero] at hWs
    obtain ⟨v, hv⟩ := hI'.gr
    have q3 : W.cell? ⟨w.heap.size + 1 + 1, 0, none⟩ = some v := by have := hv.bx; simp [World.cell?, this]
    have q4 : W.cell? ⟨w.heap.size, 0, none⟩ = some (.pointer (some ⟨b, 0, none⟩)) := by simp [World.cell?, hI'.pb]
    have hle : (pre.length : Int) < 4096 := by
      have h1 := hsp.length_le
      have h2 : (placesL L.length f.s f.k).length ≤ 4096 := by
        unfold placesL; split
        · rw [first_length]; omega
        · simp
      simp at h1; omega
    obtain ⟨⟨yb, yg, yst, yl, yc⟩, hy⟩ : ∃ y, y = atL L x := ⟨_, rfl⟩
    have hcb := cell_byte yb yg yst yl yc
    have HYY := Lib.hid hy
    have HI' := Lib.hid hI'
    have HV := Lib.hid hv
    have h11 : 1 ≤ 3 - 1 - 1 := by omega
    clear hsp hI' hv hlt hy
    gi_wp2_with fail
    --TREE
    refine region_round (by kernel_rfl) (by kernel_rfl) ?_
    refine wpAnyIn_take (i := 2) (oi := { dst := some 13, op := Op.move (Operand.tmp 6), type := 3, pos := "field.go:116", after := #[], guard := none }) (v := ?_) rfl rfl (by kernel_rfl) (by kernel_rfl) (by kernel_rfl) (fun _ _ _ h => h) ⟨Or.inl ⟨by rfl, ?_⟩, fun _ => rfl⟩ ?_
    rotate_left
    focus (intro w; go_simp; try (with_reducible rfl))
    try simp only [Act.put, List.setIfInBounds_toArray, List.set_cons_zero, List.set_cons_succ]
    refine wpAnyIn_ready (rs := [0, 1]) (by kernel_rfl) (by simp) (AllReadyIn.cons (o := { dst := some 11, op := Op.load 43 (Operand.tmp 5), type := 43, pos := "field.go:116", after := #[], guard := none }) rfl (fun K hK => ?_) (AllReadyIn.cons (o := { dst := some 12, op := Op.load 26 (Operand.tmp 2), type := 26, pos := "field.go:116", after := #[], guard := none }) rfl (fun K hK => ?_) AllReadyIn.nil))
    · go_simp
      refine hK _ _ ?_
      clear hK K
      try simp only [Act.put, List.setIfInBounds_toArray, List.set_cons_zero, List.set_cons_succ]
      refine wpAnyIn_ready (rs := [1]) (by kernel_rfl) (by simp) (AllReadyIn.cons (o := { dst := some 12, op := Op.load 26 (Operand.tmp 2), type := 26, pos := "field.go:116", after := #[], guard := none }) rfl (fun K hK => ?_) AllReadyIn.nil)
      go_simp
      refine hK _ _ ?_
      clear hK K
      try simp only [Act.put, List.setIfInBounds_toArray, List.set_cons_zero, List.set_cons_succ]
      refine wpAnyIn_ready (rs := [3]) (by kernel_rfl) (by simp) (AllReadyIn.cons (o := { dst := some 14, op := Op.call { callee := Callee.value (Operand.func 40), args := #[Operand.tmp 12, Operand.tmp 13], argTypes := #[26, 3] }, type := 45, pos := "field.go:116", after := #[{ on := 1, ground := Ground.data }, { on := 2, ground := Ground.data }], guard := none }) rfl (fun K hK => ?_) AllReadyIn.nil)
      go_simp
      refine ⟨trivial, ?_⟩
      gi_at_call 40
      (with_reducible refine (callsIn_wide.2 (at_any HI'.out.pl.drew x)).mono ?_)
      rintro e W3 ⟨he, hb3⟩
      rw [← HYY.out] at he
      simp only [Cl.val] at he
      subst he
      have z1 := cell_later hb3 q3
      have z2 := cell_later (below_alloc W3 (.cells #[.int .u8 yb] 5)) z1
      have B3 := Lib.hid (below_undrew hb3)
      clear hb3
      refine hK _ _ ?_
      clear hK K
      try simp only [Act.put, List.setIfInBounds_toArray, List.set_cons_zero, List.set_cons_succ]
      refine wpAnyIn_take (i := 4) (oi := { dst := some 15, op := Op.field 45 (Operand.tmp 14) 0, type := 5, pos := "field.go:116", after := #[{ on := 3, ground := Ground.data }], guard := none }) (v := ?_) rfl rfl (by kernel_rfl) (by kernel_rfl) (by kernel_rfl) (fun _ _ _ h => h) ⟨Or.inl ⟨by rfl, ?_⟩, fun _ => rfl⟩ ?_
      rotate_left
      focus (intro w; go_simp; try (with_reducible rfl))
      try simp only [Act.put, List.setIfInBounds_toArray, List.set_cons_zero, List.set_cons_succ]
      refine wpAnyIn_ready (rs := [5]) (by kernel_rfl) (by simp) (AllReadyIn.cons (o := { dst := some 16, op := Op.buildSlice 43 1 #[(0, Operand.tmp 15)], type := 43, pos := "field.go:116", after := #[{ on := 4, ground := Ground.data }], guard := none }) rfl (fun K hK => ?_) AllReadyIn.nil)
      go_simp
      refine hK _ _ ?_
      clear hK K
      try simp only [Act.put, List.setIfInBounds_toArray, List.set_cons_zero, List.set_cons_succ]
      refine wpAnyIn_ready (rs := [6]) (by kernel_rfl) (by simp) (AllReadyIn.cons (o := { dst := some 17, op := Op.call { callee := Callee.builtin Builtin.append, args := #[Operand.tmp 11, Operand.tmp 16], argTypes := #[43, 43] }, type := 43, pos := "field.go:116", after := #[{ on := 0, ground := Ground.data }, { on := 5, ground := Ground.data }, { on := 3, ground := Ground.chain }], guard := none }) rfl (fun K hK => ?_) AllReadyIn.nil)
      rw [if_pos (by rfl)]
      have hgg := (HV.out.turn (S := fun _ => False) (Turn.of_below B3.out) (by simp) (by simp)).row.alloc (.cells #[.int .u8 yb] 5)
      refine oper_append_own_at _ _ 43 rfl 0 5 i0 (.int .u8 0) 1 1 Try.underlying43 hi hz0 hz1 hz2 rfl (by decide) v pre.length (pre.map (byteV L)) rfl hgg ⟨W3.heap.size, 0, none⟩ 1 1 [.int .u8 yb] rfl rfl (cell_one_new _ _ _) (by simp [Value.oneCell']) (by unfold maxLen; omega) (by omega) (Nat.zero_le _) ?_
      intro v' w1 hown' hgrow _ hat
      obtain ⟨hR, hK2, hKF, hc1, hf1⟩ := HI'.out.next HV.out x (B3.out.alloc (by have := B3.out.size; omega) _) hgrow hown' rfl (by unfold byteV; rw [← HYY.out]) hat
      obtain ⟨g', cap', rfl⟩ := ownsRow_succ hown'
      have HR := Lib.hid hR
      have HKK := Lib.hid hK2
      have HKF := Lib.hid hKF
      clear hat hgrow hown' hR hK2 hKF hgg
      refine hK _ _ ?_
      clear hK K
      try simp only [Act.put, List.setIfInBounds_toArray, List.set_cons_zero, List.set_cons_succ]
      refine wpAnyIn_ready (rs := [7]) (by kernel_rfl) (by simp) (AllReadyIn.cons (o := { dst := none, op := Op.store 43 (Operand.tmp 5) (Operand.tmp 17), type := 0, pos := "field.go:116", after := #[{ on := 6, ground := Ground.data }, { on := 6, ground := Ground.chain }, { on := 0, ground := Ground.phase }, { on := 1, ground := Ground.phase }, { on := 2, ground := Ground.phase }, { on := 3, ground := Ground.phase }, { on := 4, ground := Ground.phase }, { on := 5, ground := Ground.phase }, { on := 6, ground := Ground.phase }], guard := none }) rfl (fun K hK => ?_) AllReadyIn.nil)
      go_simp
      refine hK _ _ ?_
      clear hK K
      try simp only [Act.put, List.setIfInBounds_toArray, List.set_cons_zero, List.set_cons_succ]
      refine wpAnyIn_done (by kernel_rfl) ?_ _
      gi_wp2
      exact ⟨HKF.out _ (by omega), HKK.out, HR.out⟩
    · go_simp
      refine hK _ _ ?_
      clear hK K
      try simp only [Act.put, List.setIfInBounds_toArray, List.set_cons_zero, List.set_cons_succ]
      refine wpAnyIn_ready (rs := [0, 3]) (by kernel_rfl) (by simp) (AllReadyIn.cons (o := { dst := some 11, op := Op.load 43 (Operand.tmp 5), type := 43, pos := "field.go:116", after := #[], guard := none }) rfl (fun K hK => ?_) (AllReadyIn.cons (o := { dst := some 14, op := Op.call { callee := Callee.value (Operand.func 40), args := #[Operand.tmp 12, Operand.tmp 13], argTypes := #[26, 3] }, type := 45, pos := "field.go:116", after := #[{ on := 1, ground := Ground.data }, { on := 2, ground := Ground.data }], guard := none }) rfl (fun K hK => ?_) AllReadyIn.nil))
      · go_simp
        refine hK _ _ ?_
        clear hK K
        try simp only [Act.put, List.setIfInBounds_toArray, List.set_cons_zero, List.set_cons_succ]
        refine wpAnyIn_ready (rs := [3]) (by kernel_rfl) (by simp) (AllReadyIn.cons (o := { dst := some 14, op := Op.call { callee := Callee.value (Operand.func 40), args := #[Operand.tmp 12, Operand.tmp 13], argTypes := #[26, 3] }, type := 45, pos := "field.go:116", after := #[{ on := 1, ground := Ground.data }, { on := 2, ground := Ground.data }], guard := none }) rfl (fun K hK => ?_) AllReadyIn.nil)
        go_simp
        refine ⟨trivial, ?_⟩
        gi_at_call 40
        (with_reducible refine (callsIn_wide.2 (at_any HI'.out.pl.drew x)).mono ?_)
        rintro e W3 ⟨he, hb3⟩
        rw [← HYY.out] at he
        simp only [Cl.val] at he
        subst he
        have z1 := cell_later hb3 q3
        have z2 := cell_later (below_alloc W3 (.cells #[.int .u8 yb] 5)) z1
        have B3 := Lib.hid (below_undrew hb3)
        clear hb3
        refine hK _ _ ?_
        clear hK K
        try simp only [Act.put, List.setIfInBounds_toArray, List.set_cons_zero, List.set_cons_succ]
        refine wpAnyIn_take (i := 4) (oi := { dst := some 15, op := Op.field 45 (Operand.tmp 14) 0, type := 5, pos := "field.go:116", after := #[{ on := 3, ground := Ground.data }], guard := none }) (v := ?_) rfl rfl (by kernel_rfl) (by kernel_rfl) (by kernel_rfl) (fun _ _ _ h => h) ⟨Or.inl ⟨by rfl, ?_⟩, fun _ => rfl⟩ ?_
        rotate_left
        focus (intro w; go_simp; try (with_reducible rfl))
        try simp only [Act.put, List.setIfInBounds_toArray, List.set_cons_zero, List.set_cons_succ]
        refine wpAnyIn_ready (rs := [5]) (by kernel_rfl) (by simp) (AllReadyIn.cons (o := { dst := some 16, op := Op.buildSlice 43 1 #[(0, Operand.tmp 15)], type := 43, pos := "field.go:116", after := #[{ on := 4, ground := Ground.data }], guard := none }) rfl (fun K hK => ?_) AllReadyIn.nil)
        go_simp
        refine hK _ _ ?_
        clear hK K
        try simp only [Act.put, List.setIfInBounds_toArray, List.set_cons_zero, List.set_cons_succ]
        refine wpAnyIn_ready (rs := [6]) (by kernel_rfl) (by simp) (AllReadyIn.cons (o := { dst := some 17, op := Op.call { callee := Callee.builtin Builtin.append, args := #[Operand.tmp 11, Operand.tmp 16], argTypes := #[43, 43] }, type := 43, pos := "field.go:116", after := #[{ on := 0, ground := Ground.data }, { on := 5, ground := Ground.data }, { on := 3, ground := Ground.chain }], guard := none }) rfl (fun K hK => ?_) AllReadyIn.nil)
        rw [if_pos (by rfl)]
        have hgg := (HV.out.turn (S := fun _ => False) (Turn.of_below B3.out) (by simp) (by simp)).row.alloc (.cells #[.int .u8 yb] 5)
        refine oper_append_own_at _ _ 43 rfl 0 5 i0 (.int .u8 0) 1 1 Try.underlying43 hi hz0 hz1 hz2 rfl (by decide) v pre.length (pre.map (byteV L)) rfl hgg ⟨W3.heap.size, 0, none⟩ 1 1 [.int .u8 yb] rfl rfl (cell_one_new _ _ _) (by simp [Value.oneCell']) (by unfold maxLen; omega) (by omega) (Nat.zero_le _) ?_
        intro v' w1 hown' hgrow _ hat
        obtain ⟨hR, hK2, hKF, hc1, hf1⟩ := HI'.out.next HV.out x (B3.out.alloc (by have := B3.out.size; omega) _) hgrow hown' rfl (by unfold byteV; rw [← HYY.out]) hat
        obtain ⟨g', cap', rfl⟩ := ownsRow_succ hown'
        have HR := Lib.hid hR
        have HKK := Lib.hid hK2
        have HKF := Lib.hid hKF
        clear hat hgrow hown' hR hK2 hKF hgg
        refine hK _ _ ?_
        clear hK K
        try simp only [Act.put, List.setIfInBounds_toArray, List.set_cons_zero, List.set_cons_succ]
        refine wpAnyIn_ready (rs := [7]) (by kernel_rfl) (by simp) (AllReadyIn.cons (o := { dst := none, op := Op.store 43 (Operand.tmp 5) (Operand.tmp 17), type := 0, pos := "field.go:116", after := #[{ on := 6, ground := Ground.data }, { on := 6, ground := Ground.chain }, { on := 0, ground := Ground.phase }, { on := 1, ground := Ground.phase }, { on := 2, ground := Ground.phase }, { on := 3, ground := Ground.phase }, { on := 4, ground := Ground.phase }, { on := 5, ground := Ground.phase }, { on := 6, ground := Ground.phase }], guard := none }) rfl (fun K hK => ?_) AllReadyIn.nil)
        go_simp
        refine hK _ _ ?_
        clear hK K
        try simp only [Act.put, List.setIfInBounds_toArray, List.set_cons_zero, List.set_cons_succ]
        refine wpAnyIn_done (by kernel_rfl) ?_ _
        gi_wp2
        exact ⟨HKF.out _ (by omega), HKK.out, HR.out⟩
      · go_simp
        refine ⟨trivial, ?_⟩
        gi_at_call 40
        (with_reducible refine (callsIn_wide.2 (at_any HI'.out.pl.drew x)).mono ?_)
        rintro e W3 ⟨he, hb3⟩
        rw [← HYY.out] at he
        simp only [Cl.val] at he
        subst he
        have z1 := cell_later hb3 q3
        have z2 := cell_later (below_alloc W3 (.cells #[.int .u8 yb] 5)) z1
        have B3 := Lib.hid (below_undrew hb3)
        clear hb3
        refine hK _ _ ?_
        clear hK K
        try simp only [Act.put, List.setIfInBounds_toArray, List.set_cons_zero, List.set_cons_succ]
        refine wpAnyIn_take (i := 4) (oi := { dst := some 15, op := Op.field 45 (Operand.tmp 14) 0, type := 5, pos := "field.go:116", after := #[{ on := 3, ground := Ground.data }], guard := none }) (v := ?_) rfl rfl (by kernel_rfl) (by kernel_rfl) (by kernel_rfl) (fun _ _ _ h => h) ⟨Or.inl ⟨by rfl, ?_⟩, fun _ => rfl⟩ ?_
        rotate_left
        focus (intro w; go_simp; try (with_reducible rfl))
        try simp only [Act.put, List.setIfInBounds_toArray, List.set_cons_zero, List.set_cons_succ]
        refine wpAnyIn_ready (rs := [0, 5]) (by kernel_rfl) (by simp) (AllReadyIn.cons (o := { dst := some 11, op := Op.load 43 (Operand.tmp 5), type := 43, pos := "field.go:116", after := #[], guard := none }) rfl (fun K hK => ?_) (AllReadyIn.cons (o := { dst := some 16, op := Op.buildSlice 43 1 #[(0, Operand.tmp 15)], type := 43, pos := "field.go:116", after := #[{ on := 4, ground := Ground.data }], guard := none }) rfl (fun K hK => ?_) AllReadyIn.nil))
        · go_simp
          refine hK _ _ ?_
          clear hK K
          try simp only [Act.put, List.setIfInBounds_toArray, List.set_cons_zero, List.set_cons_succ]
          refine wpAnyIn_ready (rs := [5]) (by kernel_rfl) (by simp) (AllReadyIn.cons (o := { dst := some 16, op := Op.buildSlice 43 1 #[(0, Operand.tmp 15)], type := 43, pos := "field.go:116", after := #[{ on := 4, ground := Ground.data }], guard := none }) rfl (fun K hK => ?_) AllReadyIn.nil)
          go_simp
          refine hK _ _ ?_
          clear hK K
          try simp only [Act.put, List.setIfInBounds_toArray, List.set_cons_zero, List.set_cons_succ]
          refine wpAnyIn_ready (rs := [6]) (by kernel_rfl) (by simp) (AllReadyIn.cons (o := { dst := some 17, op := Op.call { callee := Callee.builtin Builtin.append, args := #[Operand.tmp 11, Operand.tmp 16], argTypes := #[43, 43] }, type := 43, pos := "field.go:116", after := #[{ on := 0, ground := Ground.data }, { on := 5, ground := Ground.data }, { on := 3, ground := Ground.chain }], guard := none }) rfl (fun K hK => ?_) AllReadyIn.nil)
          rw [if_pos (by rfl)]
          have hgg := (HV.out.turn (S := fun _ => False) (Turn.of_below B3.out) (by simp) (by simp)).row.alloc (.cells #[.int .u8 yb] 5)
          refine oper_append_own_at _ _ 43 rfl 0 5 i0 (.int .u8 0) 1 1 Try.underlying43 hi hz0 hz1 hz2 rfl (by decide) v pre.length (pre.map (byteV L)) rfl hgg ⟨W3.heap.size, 0, none⟩ 1 1 [.int .u8 yb] rfl rfl (cell_one_new _ _ _) (by simp [Value.oneCell']) (by unfold maxLen; omega) (by omega) (Nat.zero_le _) ?_
          intro v' w1 hown' hgrow _ hat
          obtain ⟨hR, hK2, hKF, hc1, hf1⟩ := HI'.out.next HV.out x (B3.out.alloc (by have := B3.out.size; omega) _) hgrow hown' rfl (by unfold byteV; rw [← HYY.out]) hat
          obtain ⟨g', cap', rfl⟩ := ownsRow_succ hown'
          have HR := Lib.hid hR
          have HKK := Lib.hid hK2
          have HKF := Lib.hid hKF
          clear hat hgrow hown' hR hK2 hKF hgg
          refine hK _ _ ?_
          clear hK K
          try simp only [Act.put, List.setIfInBounds_toArray, List.set_cons_zero, List.set_cons_succ]
          refine wpAnyIn_ready (rs := [7]) (by kernel_rfl) (by simp) (AllReadyIn.cons (o := { dst := none, op := Op.store 43 (Operand.tmp 5) (Operand.tmp 17), type := 0, pos := "field.go:116", after := #[{ on := 6, ground := Ground.data }, { on := 6, ground := Ground.chain }, { on := 0, ground := Ground.phase }, { on := 1, ground := Ground.phase }, { on := 2, ground := Ground.phase }, { on := 3, ground := Ground.phase }, { on := 4, ground := Ground.phase }, { on := 5, ground := Ground.phase }, { on := 6, ground := Ground.phase }], guard := none }) rfl (fun K hK => ?_) AllReadyIn.nil)
          go_simp
          refine hK _ _ ?_
          clear hK K
          try simp only [Act.put, List.setIfInBounds_toArray, List.set_cons_zero, List.set_cons_succ]
          refine wpAnyIn_done (by kernel_rfl) ?_ _
          gi_wp2
          exact ⟨HKF.out _ (by omega), HKK.out, HR.out⟩
        · go_simp
          refine hK _ _ ?_
          clear hK K
          try simp only [Act.put, List.setIfInBounds_toArray, List.set_cons_zero, List.set_cons_succ]
          refine wpAnyIn_ready (rs := [0]) (by kernel_rfl) (by simp) (AllReadyIn.cons (o := { dst := some 11, op := Op.load 43 (Operand.tmp 5), type := 43, pos := "field.go:116", after := #[], guard := none }) rfl (fun K hK => ?_) AllReadyIn.nil)
          go_simp
          refine hK _ _ ?_
          clear hK K
          try simp only [Act.put, List.setIfInBounds_toArray, List.set_cons_zero, List.set_cons_succ]
          refine wpAnyIn_ready (rs := [6]) (by kernel_rfl) (by simp) (AllReadyIn.cons (o := { dst := some 17, op := Op.call { callee := Callee.builtin Builtin.append, args := #[Operand.tmp 11, Operand.tmp 16], argTypes := #[43, 43] }, type := 43, pos := "field.go:116", after := #[{ on := 0, ground := Ground.data }, { on := 5, ground := Ground.data }, { on := 3, ground := Ground.chain }], guard := none }) rfl (fun K hK => ?_) AllReadyIn.nil)
          rw [if_pos (by rfl)]
          have hgg := (HV.out.turn (S := fun _ => False) (Turn.of_below B3.out) (by simp) (by simp)).row.alloc (.cells #[.int .u8 yb] 5)
          refine oper_append_own_at _ _ 43 rfl 0 5 i0 (.int .u8 0) 1 1 Try.underlying43 hi hz0 hz1 hz2 rfl (by decide) v pre.length (pre.map (byteV L)) rfl hgg ⟨W3.heap.size, 0, none⟩ 1 1 [.int .u8 yb] rfl rfl (cell_one_new _ _ _) (by simp [Value.oneCell']) (by unfold maxLen; omega) (by omega) (Nat.zero_le _) ?_
          intro v' w1 hown' hgrow _ hat
          obtain ⟨hR, hK2, hKF, hc1, hf1⟩ := HI'.out.next HV.out x (B3.out.alloc (by have := B3.out.size; omega) _) hgrow hown' rfl (by unfold byteV; rw [← HYY.out]) hat
          obtain ⟨g', cap', rfl⟩ := ownsRow_succ hown'
          have HR := Lib.hid hR
          have HKK := Lib.hid hK2
          have HKF := Lib.hid hKF
          clear hat hgrow hown' hR hK2 hKF hgg
          refine hK _ _ ?_
          clear hK K
          try simp only [Act.put, List.setIfInBounds_toArray, List.set_cons_zero, List.set_cons_succ]
          refine wpAnyIn_ready (rs := [7]) (by kernel_rfl) (by simp) (AllReadyIn.cons (o := { dst := none, op := Op.store 43 (Operand.tmp 5) (Operand.tmp 17), type := 0, pos := "field.go:116", after := #[{ on := 6, ground := Ground.data }, { on := 6, ground := Ground.chain }, { on := 0, ground := Ground.phase }, { on := 1, ground := Ground.phase }, { on := 2, ground := Ground.phase }, { on := 3, ground := Ground.phase }, { on := 4, ground := Ground.phase }, { on := 5, ground := Ground.phase }, { on := 6, ground := Ground.phase }], guard := none }) rfl (fun K hK => ?_) AllReadyIn.nil)
          go_simp
          refine hK _ _ ?_
          clear hK K
          try simp only [Act.put, List.setIfInBounds_toArray, List.set_cons_zero, List.set_cons_succ]
          refine wpAnyIn_done (by kernel_rfl) ?_ _
          gi_wp2
          exact ⟨HKF.out _ (by omega), HKK.out, HR.out⟩
  case done =>
    rintro D ys W hD rfl hI' hK
    obtain ⟨v, hv⟩ := hI'.gr
    have q3 : W.cell? ⟨w.heap.size + 1 + 1, 0, none⟩ = some v := by have := hv.bx; simp [World.cell?, this]
    have HI' := Lib.hid hI'
    have HV := Lib.hid hv
    clear hI' hv
    gi_wp2
    refine ⟨by simp, .inl ⟨_, _, rfl, run_takeDeferred hK, ?_⟩⟩
    refine ⟨_, results_tmp rfl _ _ _, v, rfl, ?_, ?_, ?_⟩
    · exact row_grown HV.out.row (grownBy_putObj' W D (.deferred none)) (fun r e => by cases e; exact ⟨_, hK, rfl⟩)
    · intro j hj; have := HV.out.lo j hj; omega
    · exact (HI'.out.tn.grown (grownBy_putObj' W D (.deferred none)) (fun k e => by cases e; left; omega)).below (Nat.le_refl _) (fun k hk => hk.elim)
  case stop =>
    rintro D c pre W _ _ h _
    exact h.elim
theorem data_any {w : World} {b g : Nat} {r c cur : Int} {L : List Cl} (h : PlAt w b g r c cur L) (f : Fd) (hk : f.k ≤ 4096) :
    Calls Try.prog 18 #[.pointer (some ⟨b, 0, none⟩), f.val] w fun e W => ∃ v, e = .returned v ∧ W.ownsRow 0 5 1 v (placesL L.length f.s f.k).length ((placesL L.length f.s f.k).map (byteV L)) ∧ (∀ j, v.ownBlock = some j → w.heap.size ≤ j) ∧ Below w.heap.size w W :=
  callsIn_wide.1 (data_in h f hk)
end Go.Proofs.Ytgjhboikfbafcaa.Pl
