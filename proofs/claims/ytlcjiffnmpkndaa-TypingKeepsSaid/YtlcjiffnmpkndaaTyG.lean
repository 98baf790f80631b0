/-
  Contract of Delete of package typing.
-/
import Derived.Test.YtlcjiffnmpkndaaTyF
import Derived.Test.YtlcjiffnmpkndaaInRnd
namespace Go.Proofs.Ytlcjiffnmpkndaa.Pl
open Go.RowKit Go.Shelf Base
attribute [local go_sem] Oper.semAt_some
set_option linter.unusedVariables false
set_option linter.unusedSimpArgs false

/-- Behind some places of the row: the cells, and the place that the next one moves to. -/
def dlS (L : List Cl) (a : Int) (pre : List Int) : List Cl × Int := pre.foldl (fun S p => (setL S.1 S.2 (atL S.1 p), p)) (L, a)
theorem dlS_snoc (L : List Cl) (a : Int) (pre : List Int) (p : Int) : dlS L a (pre ++ [p]) = (setL (dlS L a pre).1 (dlS L a pre).2 (atL (dlS L a pre).1 p), p) := by simp [dlS, List.foldl_append]
theorem dlS_len (L : List Cl) (a : Int) (pre : List Int) : (dlS L a pre).1.length = L.length :=
  snoc_indI (P := fun pre => (dlS L a pre).1.length = L.length) rfl (fun xs y h => by rw [dlS_snoc]; show (setL _ _ _).length = _; rw [setL_length]; exact h) pre
theorem bo_dlS {L : List Cl} (h : BoL L) (a : Int) (pre : List Int) : BoL (dlS L a pre).1 :=
  snoc_indI (P := fun pre => BoL (dlS L a pre).1) h (fun xs y hq => by rw [dlS_snoc]; exact bo_setT hq _ (hq y)) pre
/-- Behind a cell that is deleted: the cells, the cursor, the error. -/
def delM (L : List Cl) (cur : Int) : List Cl × Int × Int :=
  if opnL L cur = false then (L, cur, 41) else (markL (setL (dlS L cur (rowL L cur)).1 (dlS L cur (rowL L cur)).2 c0) cur, cur, 0)
theorem bo_del {L : List Cl} (h : BoL L) (cur : Int) : BoL (delM L cur).1 := by
  unfold delM
  split; exact h
  exact bo_markT (bo_setT (bo_dlS h _ _) _ (by decide)) _
structure DlI (w : World) (b g : Nat) (r c cur : Int) (L : List Cl) (a : Int) (sl : Nat) (pre : List Int) (W : World) : Prop where
  pl : PlAt W b g r c cur (dlS L a pre).1
  b0 : W.heap[w.heap.size]? = some (.cells #[.pointer (some ⟨b, 0, none⟩)] 27 (0, 0))
  bl : W.heap[sl]? = some (.cells #[.int .i64 (dlS L a pre).2] 3 (0, 0))
  tn : Turn (At g) w W
  lo : b < w.heap.size ∧ g < w.heap.size ∧ w.heap.size < sl
section
variable {w : World} {b g : Nat} {r c cur : Int} {L : List Cl} {a x : Int} {sl : Nat} {pre : List Int} {W W' W6 W8 : World} {z : Cl} {N0 : Nat}
theorem DlI.low {B : Nat} (hB : sl < B) : LowFrom B (DlI w b g r c cur L a sl) := by
  intro s X Y h t
  obtain ⟨l1, l2, l3⟩ := h.lo
  exact ⟨h.pl.turn t (by omega) (by omega), (t.block _ (lt_of_block h.b0) (by omega)).trans h.b0, (t.block _ (lt_of_block h.bl) (by omega)).trans h.bl, turn_lowg h.tn t (by omega), h.lo⟩
theorem DlI.drew (h : DlI w b g r c cur L a sl pre W) : DlI w b g r c cur L a sl pre W.drew := ⟨h.pl.drew, h.b0, h.bl, ⟨h.tn.os, h.tn.tape, h.tn.output, h.tn.size, h.tn.block⟩, h.lo⟩
theorem dl_step {sr : Nat} (h : DlI w b g r c cur L a sl pre W) (hb : Below W.heap.size W W6) (hz : z = atL (dlS L a pre).1 x) (hp : PlAt W8 b g r c cur (setL (dlS L a pre).1 (dlS L a pre).2 z)) (t : Turn (At g) W6 W8) (hs : sl < sr ∧ sr + 2 ≤ W.heap.size) :
    W8.cell? ⟨sl, 0, none⟩ = some (.int .i64 (dlS L a pre).2) ∧ W8.frozen? ⟨sl, 0, none⟩ = false ∧ DlI w b g r c cur L a sl (pre ++ [x]) (W8.setCell ⟨sl, 0, none⟩ (.int .i64 x)) ∧
      (∀ D, sl < D → KeepsFrom D W (W8.setCell ⟨sl, 0, none⟩ (.int .i64 x)) ∧ KR sr (sr + 1) (D + 2) W (W8.setCell ⟨sl, 0, none⟩ (.int .i64 x))) := by
  obtain ⟨l1, l2, l3⟩ := h.lo
  have hlt := lt_of_block h.bl
  have t1 : Turn (At g) W W8 := (Turn.of_below hb).trans t
  have e0 := (t1.block _ (lt_of_block h.b0) (by unfold At; omega)).trans h.b0
  have e1 := (t1.block _ hlt (by unfold At; omega)).trans h.bl
  have ts := turn_set W8 sl 0 (.int .i64 x)
  have tt : Turn (fun k => k = g ∨ k = sl) W (W8.setCell ⟨sl, 0, none⟩ (.int .i64 x)) := (t1.mono fun k hk => .inl hk).trans (ts.mono fun k hk => .inr hk)
  refine ⟨by simp [World.cell?, e1], by simp [World.frozen?, e1], ⟨?_, ?_, ?_, ?_, h.lo⟩, fun D hD => ⟨keeps_of_turn tt (fun k hk => by rcases hk with hk | hk <;> omega), KR.turn tt (fun k hk => by rcases hk with hk | hk <;> omega) ⟨by omega, by omega⟩ ⟨by omega, by omega⟩⟩⟩
  · rw [dlS_snoc, ← hz]; exact hp.turn ts (by unfold At; omega) (by unfold At; omega)
  · exact (ts.block _ (lt_of_block e0) (by unfold At; omega)).trans e0
  · rw [dlS_snoc, heap_set e1 0 _]; simp
  · have t2 := (h.tn.mono (S' := fun k => k = g ∨ w.heap.size ≤ k) fun k hk => .inl hk).trans (tt.mono fun k hk => by rcases hk with hk | hk; exact .inl hk; exact .inr (by omega))
    exact ⟨t2.os, t2.tape, t2.output, t2.size, fun k hk hn => t2.block k hk (by rintro (h | h); exact hn h; omega)⟩
end
set_option maxRecDepth 100000 in
set_option maxHeartbeats 8000000 in
theorem del_in {w : World} {b g : Nat} {r c cur : Int} {L : List Cl} (h : PlAt w b g r c cur L) (hbo : BoL L) :
    CallsIn Fence.wide 4 Try.prog 52 #[.pointer (some ⟨b, 0, none⟩)] w (PutP w b g r c (delM L cur)) := by
  have hk := whole_k h.pos h.most cur
  obtain ⟨R, hR⟩ : ∃ R, R = delM L cur := ⟨_, rfl⟩
  obtain ⟨op, hop⟩ : ∃ op, op = opnL L cur := ⟨_, rfl⟩
  have hRR : R = if op = false then (L, cur, 41) else (markL (setL (dlS L cur (rowL L cur)).1 (dlS L cur (rowL L cur)).2 c0) cur, cur, 0) := by rw [hR, hop]; rfl
  rw [← hR]
  obtain ⟨W0, hW0⟩ : ∃ W0, W0 = w.alloc (.cells #[.pointer (some ⟨b, 0, none⟩)] 27) := ⟨_, rfl⟩
  have hb0 : Below w.heap.size w W0 := by rw [hW0]; exact below_alloc _ _
  have hs0 : W0.heap.size = w.heap.size + 1 := by rw [hW0]; simp
  have c0' : W0.heap[w.heap.size]? = some (.cells #[.pointer (some ⟨b, 0, none⟩)] 27 (0, 0)) := by rw [hW0]; exact heap_alloc_new _ _
  have p0 : W0.cell? ⟨w.heap.size, 0, none⟩ = some (.pointer (some ⟨b, 0, none⟩)) := by simp [World.cell?, c0']
  have HOP := Lib.hid (open_any (h.below hb0) cur hbo)
  rw [← hop] at HOP
  have H0 := Lib.hid (h.below hb0)
  have HLL := Lib.hid (And.intro h.lt h.ltg)
  have HW0 := Lib.hid hW0.symm
  have C0 := Lib.hid c0'
  have B0 := Lib.hid hb0
  have HBO := Lib.hid hbo
  have HK := Lib.hid hk
  have HRR := Lib.hid hRR
  clear hW0 hb0 c0' h hbo hk hR hop hRR
  refine callsIn_of_wp_marks Try.func52 rfl trivial ?_ rfl
  simp only [Try.ntmps52, List.size_toArray, List.length_cons, List.length_nil, Nat.reduceAdd, Nat.reduceSub, Array.replicate_succ, Array.replicate_zero, List.push_toArray, List.append_toArray, List.nil_append, List.cons_append]
  gi_upto_region 1 with fail
  rw [HW0.out]
  cases op with
  | false =>
    gi_wp2_with (refine ⟨trivial, ?_⟩; first
      | (gi_at_call 33; (with_reducible refine (callsIn_wide.2 (cursor_any H0.out)).mono ?_); rintro e' w1 ⟨rfl, rfl⟩)
      | (gi_at_call 37; (with_reducible refine (callsIn_wide.2 HOP.out).mono ?_); rintro e' w1 ⟨rfl, hb1⟩; have B1 := Lib.hid hb1; clear hb1))
    rw [show R = (L, cur, 41) by rw [HRR.out]; rfl]
    exact ⟨_, results_tmp rfl _ _ _, rfl, H0.out.below B1.out, Turn.of_below (B0.out.trans (B1.out.mono B0.out.size))⟩
  | true =>
    gi_upto_region 4 with (refine ⟨trivial, ?_⟩; first
      | (gi_at_call 33; (with_reducible refine (callsIn_wide.2 (cursor_any H0.out)).mono ?_); rintro e' w1 ⟨rfl, rfl⟩)
      | (gi_at_call 37; (with_reducible refine (callsIn_wide.2 HOP.out).mono ?_); rintro e' w1 ⟨rfl, hb1⟩; have B1 := Lib.hid hb1; clear hb1))
    gi_upto_region 5 with fail
    have hba := below_alloc w1 (.cells #[.int .i64 cur] 3)
    have hbe := heap_alloc_new w1 (.cells #[.int .i64 cur] 3)
    obtain ⟨W4, hW4⟩ : ∃ W4, W4 = w1.alloc (.cells #[.int .i64 cur] 3) := ⟨_, rfl⟩
    obtain ⟨sl, hsl⟩ : ∃ sl, sl = w1.heap.size := ⟨_, rfl⟩
    rw [← hW4] at hba hbe ⊢
    rw [← hsl] at hbe ⊢
    have hB4 := B1.out.trans (hba.mono B1.out.size)
    have h4 : DlI w b g r c cur L cur sl [] W4 := by
      refine ⟨H0.out.below hB4, (hB4.block _ (lt_of_block C0.out)).trans C0.out, hbe, Turn.of_below (B0.out.trans (hB4.mono B0.out.size)), ⟨HLL.out.1, HLL.out.2, by have := B1.out.size; omega⟩⟩
    have H4 := Lib.hid h4
    have p4 : W4.cell? ⟨w.heap.size, 0, none⟩ = some (.pointer (some ⟨b, 0, none⟩)) := by simp [World.cell?, h4.b0]
    clear h4 hba hbe hW4 hsl hB4 p0
    gi_wp2_with fail
    refine ⟨trivial, ?_⟩
    refine (callsIn_wide.2 (row_any W4 b cur)).mono ?_
    rintro e' W5 ⟨rfl, hI, hb5, hs5⟩
    have hlm := lt_of_block H4.out.bl
    have h5 : DlI w b g r c cur L cur sl [] W5 := DlI.low (B := W4.heap.size) hlm [] W4 W5 H4.out (low_below hb5)
    have H5 := Lib.hid h5
    have hsq := row_seq (w := W5) (g := g) (r := r) (c := c) (cur := cur) hI HBO.out HK.out
    obtain ⟨sr, hsr⟩ : ∃ sr, sr = W4.heap.size := ⟨_, rfl⟩
    rw [← hsr] at hsq hs5 hlm ⊢
    have HSQ := Lib.hid hsq
    have hlo := h5.lo
    obtain ⟨a, ha⟩ : ∃ a, a = cur := ⟨_, rfl⟩
    clear hI hsq hb5 p4 h5 hsr
    gi_wp2_with fail
    refine range_low (α := Int) rfl (by omega) (gf := 123) rfl trivial (enters_of Try.func123 (by kernel_rfl) rfl) HSQ.out KR.trans ?hKb (Below.refl _ _) (fun _ => rfl)
      (DlI w b g r c cur L cur sl) (fun pre W h => ⟨fun hp => (by have h1 := h.pl; rw [hp] at h1; exact h1), (by have h1 := h.pl.n; rw [dlS_len] at h1; exact h1)⟩) (fun c' pre W => False) (DlI.low (by omega)) (fun c' s X Y h t => h) H5.out
      (fun p a' _ => ∃ u v : Value, a' = { tmps := #[.pointer (some ⟨b, 0, none⟩), .pointer (some ⟨w.heap.size, 0, none⟩), .int .i64 0, .int .i64 cur, .pointer (some ⟨sl, 0, none⟩), .int .i64 p, .pointer (some ⟨b, 0, none⟩), .int .i64 cur, .pointer (some ⟨b, 0, none⟩), .int .i64 cur, .bool true, .bool false, .int .i64 cur, .pointer (some ⟨b, 0, none⟩), .int .i64 cur, .func (.func 123) #[] #[.pointer (some ⟨sr, 0, none⟩), .pointer (some ⟨sr + 1, 0, none⟩)], .int .i64 p, undef, undef, undef, undef, undef, undef, undef, undef, undef, undef, undef, undef, undef, undef], defers := [] })
      (fun _ _ _ _ _ _ h _ _ => h) ?assign ?body ?done ?stop
    case hKb =>
      intro W o o' ho hc
      have := lt_of_block ho
      exact KR.put W o' (by omega) (by omega) (by omega) (by omega) (by omega)
    case assign =>
      intro l pre p W K hsp hWs hI' hK
      gi_wp2
      exact hK _ _ (KeepsFrom.refl _ _) (KR.refl _ _ _ _) hI' ⟨undef, undef, rfl⟩
    case body =>
      rintro l pre x a' W hsp hI' ⟨u, v, rfl⟩ hlt hWs
      rw [Nat.add_zero] at hWs
      have q0 : W.drew.cell? ⟨w.heap.size, 0, none⟩ = some (.pointer (some ⟨b, 0, none⟩)) := by
        have : W.cell? ⟨w.heap.size, 0, none⟩ = some (.pointer (some ⟨b, 0, none⟩)) := by simp [World.cell?, hI'.b0]
        exact this
      have q1 : W.drew.cell? ⟨sl, 0, none⟩ = some (.int .i64 (dlS L cur pre).2) := by
        have : W.cell? ⟨sl, 0, none⟩ = some (.int .i64 (dlS L cur pre).2) := by simp [World.cell?, hI'.bl]
        exact this
      have hsW : sl < sr ∧ sr + 2 ≤ W.heap.size := by omega
      have HP := Lib.hid hI'.pl.drew
      have HI' := Lib.hid hI'
      obtain ⟨⟨zb, zg, zs, zl, zc⟩, hz⟩ : ∃ z, z = atL (dlS L cur pre).1 x := ⟨_, rfl⟩
      have HZ := Lib.hid hz
      have h11 : 1 ≤ 4 - 1 - 1 := by omega
      clear hI' hlt hsp hz
      gi_wp2_with fail
      refine region_round (by kernel_rfl) (by kernel_rfl) ?_
      refine wpAnyIn_take (i := 3) (oi := { dst := some 20, op := Op.move (Operand.tmp 5), type := 3, pos := "typing.go:61", after := #[], guard := none }) (v := ?_) rfl rfl (by kernel_rfl) (by kernel_rfl) (by kernel_rfl) (fun _ _ _ h => h) ⟨Or.inl ⟨by rfl, ?_⟩, fun _ => rfl⟩ ?_
      rotate_left
      focus (intro w; go_simp; try (with_reducible rfl))
      try simp only [Act.put, List.setIfInBounds_toArray, List.set_cons_zero, List.set_cons_succ]
      refine wpAnyIn_ready (rs := [0, 1, 2]) (by kernel_rfl) (by simp) (AllReadyIn.cons (o := { dst := some 17, op := Op.load 27 (Operand.tmp 1), type := 27, pos := "typing.go:61", after := #[], guard := none }) rfl (fun K hK => ?_) (AllReadyIn.cons (o := { dst := some 18, op := Op.load 3 (Operand.tmp 4), type := 3, pos := "typing.go:61", after := #[], guard := none }) rfl (fun K hK => ?_) (AllReadyIn.cons (o := { dst := some 19, op := Op.load 27 (Operand.tmp 1), type := 27, pos := "typing.go:61", after := #[], guard := none }) rfl (fun K hK => ?_) AllReadyIn.nil)))
      · go_simp
        refine hK _ _ ?_
        clear hK K
        try simp only [Act.put, List.setIfInBounds_toArray, List.set_cons_zero, List.set_cons_succ]
        refine wpAnyIn_ready (rs := [1, 2]) (by kernel_rfl) (by simp) (AllReadyIn.cons (o := { dst := some 18, op := Op.load 3 (Operand.tmp 4), type := 3, pos := "typing.go:61", after := #[], guard := none }) rfl (fun K hK => ?_) (AllReadyIn.cons (o := { dst := some 19, op := Op.load 27 (Operand.tmp 1), type := 27, pos := "typing.go:61", after := #[], guard := none }) rfl (fun K hK => ?_) AllReadyIn.nil))
        · go_simp
          refine hK _ _ ?_
          clear hK K
          try simp only [Act.put, List.setIfInBounds_toArray, List.set_cons_zero, List.set_cons_succ]
          refine wpAnyIn_ready (rs := [2]) (by kernel_rfl) (by simp) (AllReadyIn.cons (o := { dst := some 19, op := Op.load 27 (Operand.tmp 1), type := 27, pos := "typing.go:61", after := #[], guard := none }) rfl (fun K hK => ?_) AllReadyIn.nil)
          go_simp
          refine hK _ _ ?_
          clear hK K
          try simp only [Act.put, List.setIfInBounds_toArray, List.set_cons_zero, List.set_cons_succ]
          refine wpAnyIn_ready (rs := [4]) (by kernel_rfl) (by simp) (AllReadyIn.cons (o := { dst := some 21, op := Op.call { callee := Callee.value (Operand.func 40), args := #[Operand.tmp 19, Operand.tmp 20], argTypes := #[27, 3] }, type := 58, pos := "typing.go:61", after := #[{ on := 2, ground := Ground.data }, { on := 3, ground := Ground.data }], guard := none }) rfl (fun K hK => ?_) AllReadyIn.nil)
          go_simp
          refine ⟨trivial, ?_⟩
          gi_at_call 40
          (with_reducible refine (callsIn_wide.2 (at_any HP.out x)).mono ?_)
          rintro e' W6 ⟨he, hb6⟩
          rw [← HZ.out] at he
          simp only [Cl.val] at he
          subst he
          have z0 := cell_later hb6 q0
          have z1 := cell_later hb6 q1
          have B6 := Lib.hid (below_undrew hb6)
          clear hb6
          refine hK _ _ ?_
          clear hK K
          try simp only [Act.put, List.setIfInBounds_toArray, List.set_cons_zero, List.set_cons_succ]
          refine wpAnyIn_ready (rs := [5]) (by kernel_rfl) (by simp) (AllReadyIn.cons (o := { dst := some 22, op := Op.call { callee := Callee.value (Operand.func 57), args := #[Operand.tmp 17, Operand.tmp 18, Operand.tmp 21], argTypes := #[27, 3, 58] }, type := 4, pos := "typing.go:61", after := #[{ on := 0, ground := Ground.data }, { on := 1, ground := Ground.data }, { on := 4, ground := Ground.data }, { on := 4, ground := Ground.chain }], guard := none }) rfl (fun K hK => ?_) AllReadyIn.nil)
          go_simp
          refine ⟨trivial, ?_⟩
          gi_at_call 57
          (with_reducible refine (callsIn_wide.2 (set_any (HI'.out.pl.below B6.out) (dlS L cur pre).2 ⟨zb, zg, zs, zl, zc⟩)).mono ?_)
          rintro e' W8 ⟨rfl, hp8, ht8⟩
          have HP8 := Lib.hid hp8
          have HT8 := Lib.hid ht8
          clear hp8 ht8
          refine hK _ _ ?_
          clear hK K
          try simp only [Act.put, List.setIfInBounds_toArray, List.set_cons_zero, List.set_cons_succ]
          refine wpAnyIn_done (by kernel_rfl) ?_ _
          have hD := dl_step HI'.out B6.out HZ.out HP8.out HT8.out hsW
          have HD := Lib.hid hD
          have r1 := hD.1
          have r1f := hD.2.1
          clear hD
          gi_wp2
          exact ⟨(HD.out.2.2.2 _ (by omega)).1, (HD.out.2.2.2 _ (by omega)).2, HD.out.2.2.1⟩
        · go_simp
          refine hK _ _ ?_
          clear hK K
          try simp only [Act.put, List.setIfInBounds_toArray, List.set_cons_zero, List.set_cons_succ]
          refine wpAnyIn_ready (rs := [1, 4]) (by kernel_rfl) (by simp) (AllReadyIn.cons (o := { dst := some 18, op := Op.load 3 (Operand.tmp 4), type := 3, pos := "typing.go:61", after := #[], guard := none }) rfl (fun K hK => ?_) (AllReadyIn.cons (o := { dst := some 21, op := Op.call { callee := Callee.value (Operand.func 40), args := #[Operand.tmp 19, Operand.tmp 20], argTypes := #[27, 3] }, type := 58, pos := "typing.go:61", after := #[{ on := 2, ground := Ground.data }, { on := 3, ground := Ground.data }], guard := none }) rfl (fun K hK => ?_) AllReadyIn.nil))
          · go_simp
            refine hK _ _ ?_
            clear hK K
            try simp only [Act.put, List.setIfInBounds_toArray, List.set_cons_zero, List.set_cons_succ]
            refine wpAnyIn_ready (rs := [4]) (by kernel_rfl) (by simp) (AllReadyIn.cons (o := { dst := some 21, op := Op.call { callee := Callee.value (Operand.func 40), args := #[Operand.tmp 19, Operand.tmp 20], argTypes := #[27, 3] }, type := 58, pos := "typing.go:61", after := #[{ on := 2, ground := Ground.data }, { on := 3, ground := Ground.data }], guard := none }) rfl (fun K hK => ?_) AllReadyIn.nil)
            go_simp
            refine ⟨trivial, ?_⟩
            gi_at_call 40
            (with_reducible refine (callsIn_wide.2 (at_any HP.out x)).mono ?_)
            rintro e' W6 ⟨he, hb6⟩
            rw [← HZ.out] at he
            simp only [Cl.val] at he
            subst he
            have z0 := cell_later hb6 q0
            have z1 := cell_later hb6 q1
            have B6 := Lib.hid (below_undrew hb6)
            clear hb6
            refine hK _ _ ?_
            clear hK K
            try simp only [Act.put, List.setIfInBounds_toArray, List.set_cons_zero, List.set_cons_succ]
            refine wpAnyIn_ready (rs := [5]) (by kernel_rfl) (by simp) (AllReadyIn.cons (o := { dst := some 22, op := Op.call { callee := Callee.value (Operand.func 57), args := #[Operand.tmp 17, Operand.tmp 18, Operand.tmp 21], argTypes := #[27, 3, 58] }, type := 4, pos := "typing.go:61", after := #[{ on := 0, ground := Ground.data }, { on := 1, ground := Ground.data }, { on := 4, ground := Ground.data }, { on := 4, ground := Ground.chain }], guard := none }) rfl (fun K hK => ?_) AllReadyIn.nil)
            go_simp
            refine ⟨trivial, ?_⟩
            gi_at_call 57
            (with_reducible refine (callsIn_wide.2 (set_any (HI'.out.pl.below B6.out) (dlS L cur pre).2 ⟨zb, zg, zs, zl, zc⟩)).mono ?_)
            rintro e' W8 ⟨rfl, hp8, ht8⟩
            have HP8 := Lib.hid hp8
            have HT8 := Lib.hid ht8
            clear hp8 ht8
            refine hK _ _ ?_
            clear hK K
            try simp only [Act.put, List.setIfInBounds_toArray, List.set_cons_zero, List.set_cons_succ]
            refine wpAnyIn_done (by kernel_rfl) ?_ _
            have hD := dl_step HI'.out B6.out HZ.out HP8.out HT8.out hsW
            have HD := Lib.hid hD
            have r1 := hD.1
            have r1f := hD.2.1
            clear hD
            gi_wp2
            exact ⟨(HD.out.2.2.2 _ (by omega)).1, (HD.out.2.2.2 _ (by omega)).2, HD.out.2.2.1⟩
          · go_simp
            refine ⟨trivial, ?_⟩
            gi_at_call 40
            (with_reducible refine (callsIn_wide.2 (at_any HP.out x)).mono ?_)
            rintro e' W6 ⟨he, hb6⟩
            rw [← HZ.out] at he
            simp only [Cl.val] at he
            subst he
            have z0 := cell_later hb6 q0
            have z1 := cell_later hb6 q1
            have B6 := Lib.hid (below_undrew hb6)
            clear hb6
            refine hK _ _ ?_
            clear hK K
            try simp only [Act.put, List.setIfInBounds_toArray, List.set_cons_zero, List.set_cons_succ]
            refine wpAnyIn_ready (rs := [1]) (by kernel_rfl) (by simp) (AllReadyIn.cons (o := { dst := some 18, op := Op.load 3 (Operand.tmp 4), type := 3, pos := "typing.go:61", after := #[], guard := none }) rfl (fun K hK => ?_) AllReadyIn.nil)
            go_simp
            refine hK _ _ ?_
            clear hK K
            try simp only [Act.put, List.setIfInBounds_toArray, List.set_cons_zero, List.set_cons_succ]
            refine wpAnyIn_ready (rs := [5]) (by kernel_rfl) (by simp) (AllReadyIn.cons (o := { dst := some 22, op := Op.call { callee := Callee.value (Operand.func 57), args := #[Operand.tmp 17, Operand.tmp 18, Operand.tmp 21], argTypes := #[27, 3, 58] }, type := 4, pos := "typing.go:61", after := #[{ on := 0, ground := Ground.data }, { on := 1, ground := Ground.data }, { on := 4, ground := Ground.data }, { on := 4, ground := Ground.chain }], guard := none }) rfl (fun K hK => ?_) AllReadyIn.nil)
            go_simp
            refine ⟨trivial, ?_⟩
            gi_at_call 57
            (with_reducible refine (callsIn_wide.2 (set_any (HI'.out.pl.below B6.out) (dlS L cur pre).2 ⟨zb, zg, zs, zl, zc⟩)).mono ?_)
            rintro e' W8 ⟨rfl, hp8, ht8⟩
            have HP8 := Lib.hid hp8
            have HT8 := Lib.hid ht8
            clear hp8 ht8
            refine hK _ _ ?_
            clear hK K
            try simp only [Act.put, List.setIfInBounds_toArray, List.set_cons_zero, List.set_cons_succ]
            refine wpAnyIn_done (by kernel_rfl) ?_ _
            have hD := dl_step HI'.out B6.out HZ.out HP8.out HT8.out hsW
            have HD := Lib.hid hD
            have r1 := hD.1
            have r1f := hD.2.1
            clear hD
            gi_wp2
            exact ⟨(HD.out.2.2.2 _ (by omega)).1, (HD.out.2.2.2 _ (by omega)).2, HD.out.2.2.1⟩
      · go_simp
        refine hK _ _ ?_
        clear hK K
        try simp only [Act.put, List.setIfInBounds_toArray, List.set_cons_zero, List.set_cons_succ]
        refine wpAnyIn_ready (rs := [0, 2]) (by kernel_rfl) (by simp) (AllReadyIn.cons (o := { dst := some 17, op := Op.load 27 (Operand.tmp 1), type := 27, pos := "typing.go:61", after := #[], guard := none }) rfl (fun K hK => ?_) (AllReadyIn.cons (o := { dst := some 19, op := Op.load 27 (Operand.tmp 1), type := 27, pos := "typing.go:61", after := #[], guard := none }) rfl (fun K hK => ?_) AllReadyIn.nil))
        · go_simp
          refine hK _ _ ?_
          clear hK K
          try simp only [Act.put, List.setIfInBounds_toArray, List.set_cons_zero, List.set_cons_succ]
          refine wpAnyIn_ready (rs := [2]) (by kernel_rfl) (by simp) (AllReadyIn.cons (o := { dst := some 19, op := Op.load 27 (Operand.tmp 1), type := 27, pos := "typing.go:61", after := #[], guard := none }) rfl (fun K hK => ?_) AllReadyIn.nil)
          go_simp
          refine hK _ _ ?_
          clear hK K
          try simp only [Act.put, List.setIfInBounds_toArray, List.set_cons_zero, List.set_cons_succ]
          refine wpAnyIn_ready (rs := [4]) (by kernel_rfl) (by simp) (AllReadyIn.cons (o := { dst := some 21, op := Op.call { callee := Callee.value (Operand.func 40), args := #[Operand.tmp 19, Operand.tmp 20], argTypes := #[27, 3] }, type := 58, pos := "typing.go:61", after := #[{ on := 2, ground := Ground.data }, { on := 3, ground := Ground.data }], guard := none }) rfl (fun K hK => ?_) AllReadyIn.nil)
          go_simp
          refine ⟨trivial, ?_⟩
          gi_at_call 40
          (with_reducible refine (callsIn_wide.2 (at_any HP.out x)).mono ?_)
          rintro e' W6 ⟨he, hb6⟩
          rw [← HZ.out] at he
          simp only [Cl.val] at he
          subst he
          have z0 := cell_later hb6 q0
          have z1 := cell_later hb6 q1
          have B6 := Lib.hid (below_undrew hb6)
          clear hb6
          refine hK _ _ ?_
          clear hK K
          try simp only [Act.put, List.setIfInBounds_toArray, List.set_cons_zero, List.set_cons_succ]
          refine wpAnyIn_ready (rs := [5]) (by kernel_rfl) (by simp) (AllReadyIn.cons (o := { dst := some 22, op := Op.call { callee := Callee.value (Operand.func 57), args := #[Operand.tmp 17, Operand.tmp 18, Operand.tmp 21], argTypes := #[27, 3, 58] }, type := 4, pos := "typing.go:61", after := #[{ on := 0, ground := Ground.data }, { on := 1, ground := Ground.data }, { on := 4, ground := Ground.data }, { on := 4, ground := Ground.chain }], guard := none }) rfl (fun K hK => ?_) AllReadyIn.nil)
          go_simp
          refine ⟨trivial, ?_⟩
          gi_at_call 57
          (with_reducible refine (callsIn_wide.2 (set_any (HI'.out.pl.below B6.out) (dlS L cur pre).2 ⟨zb, zg, zs, zl, zc⟩)).mono ?_)
          rintro e' W8 ⟨rfl, hp8, ht8⟩
          have HP8 := Lib.hid hp8
          have HT8 := Lib.hid ht8
          clear hp8 ht8
          refine hK _ _ ?_
          clear hK K
          try simp only [Act.put, List.setIfInBounds_toArray, List.set_cons_zero, List.set_cons_succ]
          refine wpAnyIn_done (by kernel_rfl) ?_ _
          have hD := dl_step HI'.out B6.out HZ.out HP8.out HT8.out hsW
          have HD := Lib.hid hD
          have r1 := hD.1
          have r1f := hD.2.1
          clear hD
          gi_wp2
          exact ⟨(HD.out.2.2.2 _ (by omega)).1, (HD.out.2.2.2 _ (by omega)).2, HD.out.2.2.1⟩
        · go_simp
          refine hK _ _ ?_
          clear hK K
          try simp only [Act.put, List.setIfInBounds_toArray, List.set_cons_zero, List.set_cons_succ]
          refine wpAnyIn_ready (rs := [0, 4]) (by kernel_rfl) (by simp) (AllReadyIn.cons (o := { dst := some 17, op := Op.load 27 (Operand.tmp 1), type := 27, pos := "typing.go:61", after := #[], guard := none }) rfl (fun K hK => ?_) (AllReadyIn.cons (o := { dst := some 21, op := Op.call { callee := Callee.value (Operand.func 40), args := #[Operand.tmp 19, Operand.tmp 20], argTypes := #[27, 3] }, type := 58, pos := "typing.go:61", after := #[{ on := 2, ground := Ground.data }, { on := 3, ground := Ground.data }], guard := none }) rfl (fun K hK => ?_) AllReadyIn.nil))
          · go_simp
            refine hK _ _ ?_
            clear hK K
            try simp only [Act.put, List.setIfInBounds_toArray, List.set_cons_zero, List.set_cons_succ]
            refine wpAnyIn_ready (rs := [4]) (by kernel_rfl) (by simp) (AllReadyIn.cons (o := { dst := some 21, op := Op.call { callee := Callee.value (Operand.func 40), args := #[Operand.tmp 19, Operand.tmp 20], argTypes := #[27, 3] }, type := 58, pos := "typing.go:61", after := #[{ on := 2, ground := Ground.data }, { on := 3, ground := Ground.data }], guard := none }) rfl (fun K hK => ?_) AllReadyIn.nil)
            go_simp
            refine ⟨trivial, ?_⟩
            gi_at_call 40
            (with_reducible refine (callsIn_wide.2 (at_any HP.out x)).mono ?_)
            rintro e' W6 ⟨he, hb6⟩
            rw [← HZ.out] at he
            simp only [Cl.val] at he
            subst he
            have z0 := cell_later hb6 q0
            have z1 := cell_later hb6 q1
            have B6 := Lib.hid (below_undrew hb6)
            clear hb6
            refine hK _ _ ?_
            clear hK K
            try simp only [Act.put, List.setIfInBounds_toArray, List.set_cons_zero, List.set_cons_succ]
            refine wpAnyIn_ready (rs := [5]) (by kernel_rfl) (by simp) (AllReadyIn.cons (o := { dst := some 22, op := Op.call { callee := Callee.value (Operand.func 57), args := #[Operand.tmp 17, Operand.tmp 18, Operand.tmp 21], argTypes := #[27, 3, 58] }, type := 4, pos := "typing.go:61", after := #[{ on := 0, ground := Ground.data }, { on := 1, ground := Ground.data }, { on := 4, ground := Ground.data }, { on := 4, ground := Ground.chain }], guard := none }) rfl (fun K hK => ?_) AllReadyIn.nil)
            go_simp
            refine ⟨trivial, ?_⟩
            gi_at_call 57
            (with_reducible refine (callsIn_wide.2 (set_any (HI'.out.pl.below B6.out) (dlS L cur pre).2 ⟨zb, zg, zs, zl, zc⟩)).mono ?_)
            rintro e' W8 ⟨rfl, hp8, ht8⟩
            have HP8 := Lib.hid hp8
            have HT8 := Lib.hid ht8
            clear hp8 ht8
            refine hK _ _ ?_
            clear hK K
            try simp only [Act.put, List.setIfInBounds_toArray, List.set_cons_zero, List.set_cons_succ]
            refine wpAnyIn_done (by kernel_rfl) ?_ _
            have hD := dl_step HI'.out B6.out HZ.out HP8.out HT8.out hsW
            have HD := Lib.hid hD
            have r1 := hD.1
            have r1f := hD.2.1
            clear hD
            gi_wp2
            exact ⟨(HD.out.2.2.2 _ (by omega)).1, (HD.out.2.2.2 _ (by omega)).2, HD.out.2.2.1⟩
          · go_simp
            refine ⟨trivial, ?_⟩
            gi_at_call 40
            (with_reducible refine (callsIn_wide.2 (at_any HP.out x)).mono ?_)
            rintro e' W6 ⟨he, hb6⟩
            rw [← HZ.out] at he
            simp only [Cl.val] at he
            subst he
            have z0 := cell_later hb6 q0
            have z1 := cell_later hb6 q1
            have B6 := Lib.hid (below_undrew hb6)
            clear hb6
            refine hK _ _ ?_
            clear hK K
            try simp only [Act.put, List.setIfInBounds_toArray, List.set_cons_zero, List.set_cons_succ]
            refine wpAnyIn_ready (rs := [0]) (by kernel_rfl) (by simp) (AllReadyIn.cons (o := { dst := some 17, op := Op.load 27 (Operand.tmp 1), type := 27, pos := "typing.go:61", after := #[], guard := none }) rfl (fun K hK => ?_) AllReadyIn.nil)
            go_simp
            refine hK _ _ ?_
            clear hK K
            try simp only [Act.put, List.setIfInBounds_toArray, List.set_cons_zero, List.set_cons_succ]
            refine wpAnyIn_ready (rs := [5]) (by kernel_rfl) (by simp) (AllReadyIn.cons (o := { dst := some 22, op := Op.call { callee := Callee.value (Operand.func 57), args := #[Operand.tmp 17, Operand.tmp 18, Operand.tmp 21], argTypes := #[27, 3, 58] }, type := 4, pos := "typing.go:61", after := #[{ on := 0, ground := Ground.data }, { on := 1, ground := Ground.data }, { on := 4, ground := Ground.data }, { on := 4, ground := Ground.chain }], guard := none }) rfl (fun K hK => ?_) AllReadyIn.nil)
            go_simp
            refine ⟨trivial, ?_⟩
            gi_at_call 57
            (with_reducible refine (callsIn_wide.2 (set_any (HI'.out.pl.below B6.out) (dlS L cur pre).2 ⟨zb, zg, zs, zl, zc⟩)).mono ?_)
            rintro e' W8 ⟨rfl, hp8, ht8⟩
            have HP8 := Lib.hid hp8
            have HT8 := Lib.hid ht8
            clear hp8 ht8
            refine hK _ _ ?_
            clear hK K
            try simp only [Act.put, List.setIfInBounds_toArray, List.set_cons_zero, List.set_cons_succ]
            refine wpAnyIn_done (by kernel_rfl) ?_ _
            have hD := dl_step HI'.out B6.out HZ.out HP8.out HT8.out hsW
            have HD := Lib.hid hD
            have r1 := hD.1
            have r1f := hD.2.1
            clear hD
            gi_wp2
            exact ⟨(HD.out.2.2.2 _ (by omega)).1, (HD.out.2.2.2 _ (by omega)).2, HD.out.2.2.1⟩
      · go_simp
        refine hK _ _ ?_
        clear hK K
        try simp only [Act.put, List.setIfInBounds_toArray, List.set_cons_zero, List.set_cons_succ]
        refine wpAnyIn_ready (rs := [0, 1, 4]) (by kernel_rfl) (by simp) (AllReadyIn.cons (o := { dst := some 17, op := Op.load 27 (Operand.tmp 1), type := 27, pos := "typing.go:61", after := #[], guard := none }) rfl (fun K hK => ?_) (AllReadyIn.cons (o := { dst := some 18, op := Op.load 3 (Operand.tmp 4), type := 3, pos := "typing.go:61", after := #[], guard := none }) rfl (fun K hK => ?_) (AllReadyIn.cons (o := { dst := some 21, op := Op.call { callee := Callee.value (Operand.func 40), args := #[Operand.tmp 19, Operand.tmp 20], argTypes := #[27, 3] }, type := 58, pos := "typing.go:61", after := #[{ on := 2, ground := Ground.data }, { on := 3, ground := Ground.data }], guard := none }) rfl (fun K hK => ?_) AllReadyIn.nil)))
        · go_simp
          refine hK _ _ ?_
          clear hK K
          try simp only [Act.put, List.setIfInBounds_toArray, List.set_cons_zero, List.set_cons_succ]
          refine wpAnyIn_ready (rs := [1, 4]) (by kernel_rfl) (by simp) (AllReadyIn.cons (o := { dst := some 18, op := Op.load 3 (Operand.tmp 4), type := 3, pos := "typing.go:61", after := #[], guard := none }) rfl (fun K hK => ?_) (AllReadyIn.cons (o := { dst := some 21, op := Op.call { callee := Callee.value (Operand.func 40), args := #[Operand.tmp 19, Operand.tmp 20], argTypes := #[27, 3] }, type := 58, pos := "typing.go:61", after := #[{ on := 2, ground := Ground.data }, { on := 3, ground := Ground.data }], guard := none }) rfl (fun K hK => ?_) AllReadyIn.nil))
          · go_simp
            refine hK _ _ ?_
            clear hK K
            try simp only [Act.put, List.setIfInBounds_toArray, List.set_cons_zero, List.set_cons_succ]
            refine wpAnyIn_ready (rs := [4]) (by kernel_rfl) (by simp) (AllReadyIn.cons (o := { dst := some 21, op := Op.call { callee := Callee.value (Operand.func 40), args := #[Operand.tmp 19, Operand.tmp 20], argTypes := #[27, 3] }, type := 58, pos := "typing.go:61", after := #[{ on := 2, ground := Ground.data }, { on := 3, ground := Ground.data }], guard := none }) rfl (fun K hK => ?_) AllReadyIn.nil)
            go_simp
            refine ⟨trivial, ?_⟩
            gi_at_call 40
            (with_reducible refine (callsIn_wide.2 (at_any HP.out x)).mono ?_)
            rintro e' W6 ⟨he, hb6⟩
            rw [← HZ.out] at he
            simp only [Cl.val] at he
            subst he
            have z0 := cell_later hb6 q0
            have z1 := cell_later hb6 q1
            have B6 := Lib.hid (below_undrew hb6)
            clear hb6
            refine hK _ _ ?_
            clear hK K
            try simp only [Act.put, List.setIfInBounds_toArray, List.set_cons_zero, List.set_cons_succ]
            refine wpAnyIn_ready (rs := [5]) (by kernel_rfl) (by simp) (AllReadyIn.cons (o := { dst := some 22, op := Op.call { callee := Callee.value (Operand.func 57), args := #[Operand.tmp 17, Operand.tmp 18, Operand.tmp 21], argTypes := #[27, 3, 58] }, type := 4, pos := "typing.go:61", after := #[{ on := 0, ground := Ground.data }, { on := 1, ground := Ground.data }, { on := 4, ground := Ground.data }, { on := 4, ground := Ground.chain }], guard := none }) rfl (fun K hK => ?_) AllReadyIn.nil)
            go_simp
            refine ⟨trivial, ?_⟩
            gi_at_call 57
            (with_reducible refine (callsIn_wide.2 (set_any (HI'.out.pl.below B6.out) (dlS L cur pre).2 ⟨zb, zg, zs, zl, zc⟩)).mono ?_)
            rintro e' W8 ⟨rfl, hp8, ht8⟩
            have HP8 := Lib.hid hp8
            have HT8 := Lib.hid ht8
            clear hp8 ht8
            refine hK _ _ ?_
            clear hK K
            try simp only [Act.put, List.setIfInBounds_toArray, List.set_cons_zero, List.set_cons_succ]
            refine wpAnyIn_done (by kernel_rfl) ?_ _
            have hD := dl_step HI'.out B6.out HZ.out HP8.out HT8.out hsW
            have HD := Lib.hid hD
            have r1 := hD.1
            have r1f := hD.2.1
            clear hD
            gi_wp2
            exact ⟨(HD.out.2.2.2 _ (by omega)).1, (HD.out.2.2.2 _ (by omega)).2, HD.out.2.2.1⟩
          · go_simp
            refine ⟨trivial, ?_⟩
            gi_at_call 40
            (with_reducible refine (callsIn_wide.2 (at_any HP.out x)).mono ?_)
            rintro e' W6 ⟨he, hb6⟩
            rw [← HZ.out] at he
            simp only [Cl.val] at he
            subst he
            have z0 := cell_later hb6 q0
            have z1 := cell_later hb6 q1
            have B6 := Lib.hid (below_undrew hb6)
            clear hb6
            refine hK _ _ ?_
            clear hK K
            try simp only [Act.put, List.setIfInBounds_toArray, List.set_cons_zero, List.set_cons_succ]
            refine wpAnyIn_ready (rs := [1]) (by kernel_rfl) (by simp) (AllReadyIn.cons (o := { dst := some 18, op := Op.load 3 (Operand.tmp 4), type := 3, pos := "typing.go:61", after := #[], guard := none }) rfl (fun K hK => ?_) AllReadyIn.nil)
            go_simp
            refine hK _ _ ?_
            clear hK K
            try simp only [Act.put, List.setIfInBounds_toArray, List.set_cons_zero, List.set_cons_succ]
            refine wpAnyIn_ready (rs := [5]) (by kernel_rfl) (by simp) (AllReadyIn.cons (o := { dst := some 22, op := Op.call { callee := Callee.value (Operand.func 57), args := #[Operand.tmp 17, Operand.tmp 18, Operand.tmp 21], argTypes := #[27, 3, 58] }, type := 4, pos := "typing.go:61", after := #[{ on := 0, ground := Ground.data }, { on := 1, ground := Ground.data }, { on := 4, ground := Ground.data }, { on := 4, ground := Ground.chain }], guard := none }) rfl (fun K hK => ?_) AllReadyIn.nil)
            go_simp
            refine ⟨trivial, ?_⟩
            gi_at_call 57
            (with_reducible refine (callsIn_wide.2 (set_any (HI'.out.pl.below B6.out) (dlS L cur pre).2 ⟨zb, zg, zs, zl, zc⟩)).mono ?_)
            rintro e' W8 ⟨rfl, hp8, ht8⟩
            have HP8 := Lib.hid hp8
            have HT8 := Lib.hid ht8
            clear hp8 ht8
            refine hK _ _ ?_
            clear hK K
            try simp only [Act.put, List.setIfInBounds_toArray, List.set_cons_zero, List.set_cons_succ]
            refine wpAnyIn_done (by kernel_rfl) ?_ _
            have hD := dl_step HI'.out B6.out HZ.out HP8.out HT8.out hsW
            have HD := Lib.hid hD
            have r1 := hD.1
            have r1f := hD.2.1
            clear hD
            gi_wp2
            exact ⟨(HD.out.2.2.2 _ (by omega)).1, (HD.out.2.2.2 _ (by omega)).2, HD.out.2.2.1⟩
        · go_simp
          refine hK _ _ ?_
          clear hK K
          try simp only [Act.put, List.setIfInBounds_toArray, List.set_cons_zero, List.set_cons_succ]
          refine wpAnyIn_ready (rs := [0, 4]) (by kernel_rfl) (by simp) (AllReadyIn.cons (o := { dst := some 17, op := Op.load 27 (Operand.tmp 1), type := 27, pos := "typing.go:61", after := #[], guard := none }) rfl (fun K hK => ?_) (AllReadyIn.cons (o := { dst := some 21, op := Op.call { callee := Callee.value (Operand.func 40), args := #[Operand.tmp 19, Operand.tmp 20], argTypes := #[27, 3] }, type := 58, pos := "typing.go:61", after := #[{ on := 2, ground := Ground.data }, { on := 3, ground := Ground.data }], guard := none }) rfl (fun K hK => ?_) AllReadyIn.nil))
          · go_simp
            refine hK _ _ ?_
            clear hK K
            try simp only [Act.put, List.setIfInBounds_toArray, List.set_cons_zero, List.set_cons_succ]
            refine wpAnyIn_ready (rs := [4]) (by kernel_rfl) (by simp) (AllReadyIn.cons (o := { dst := some 21, op := Op.call { callee := Callee.value (Operand.func 40), args := #[Operand.tmp 19, Operand.tmp 20], argTypes := #[27, 3] }, type := 58, pos := "typing.go:61", after := #[{ on := 2, ground := Ground.data }, { on := 3, ground := Ground.data }], guard := none }) rfl (fun K hK => ?_) AllReadyIn.nil)
            go_simp
            refine ⟨trivial, ?_⟩
            gi_at_call 40
            (with_reducible refine (callsIn_wide.2 (at_any HP.out x)).mono ?_)
            rintro e' W6 ⟨he, hb6⟩
            rw [← HZ.out] at he
            simp only [Cl.val] at he
            subst he
            have z0 := cell_later hb6 q0
            have z1 := cell_later hb6 q1
            have B6 := Lib.hid (below_undrew hb6)
            clear hb6
            refine hK _ _ ?_
            clear hK K
            try simp only [Act.put, List.setIfInBounds_toArray, List.set_cons_zero, List.set_cons_succ]
            refine wpAnyIn_ready (rs := [5]) (by kernel_rfl) (by simp) (AllReadyIn.cons (o := { dst := some 22, op := Op.call { callee := Callee.value (Operand.func 57), args := #[Operand.tmp 17, Operand.tmp 18, Operand.tmp 21], argTypes := #[27, 3, 58] }, type := 4, pos := "typing.go:61", after := #[{ on := 0, ground := Ground.data }, { on := 1, ground := Ground.data }, { on := 4, ground := Ground.data }, { on := 4, ground := Ground.chain }], guard := none }) rfl (fun K hK => ?_) AllReadyIn.nil)
            go_simp
            refine ⟨trivial, ?_⟩
            gi_at_call 57
            (with_reducible refine (callsIn_wide.2 (set_any (HI'.out.pl.below B6.out) (dlS L cur pre).2 ⟨zb, zg, zs, zl, zc⟩)).mono ?_)
            rintro e' W8 ⟨rfl, hp8, ht8⟩
            have HP8 := Lib.hid hp8
            have HT8 := Lib.hid ht8
            clear hp8 ht8
            refine hK _ _ ?_
            clear hK K
            try simp only [Act.put, List.setIfInBounds_toArray, List.set_cons_zero, List.set_cons_succ]
            refine wpAnyIn_done (by kernel_rfl) ?_ _
            have hD := dl_step HI'.out B6.out HZ.out HP8.out HT8.out hsW
            have HD := Lib.hid hD
            have r1 := hD.1
            have r1f := hD.2.1
            clear hD
            gi_wp2
            exact ⟨(HD.out.2.2.2 _ (by omega)).1, (HD.out.2.2.2 _ (by omega)).2, HD.out.2.2.1⟩
          · go_simp
            refine ⟨trivial, ?_⟩
            gi_at_call 40
            (with_reducible refine (callsIn_wide.2 (at_any HP.out x)).mono ?_)
            rintro e' W6 ⟨he, hb6⟩
            rw [← HZ.out] at he
            simp only [Cl.val] at he
            subst he
            have z0 := cell_later hb6 q0
            have z1 := cell_later hb6 q1
            have B6 := Lib.hid (below_undrew hb6)
            clear hb6
            refine hK _ _ ?_
            clear hK K
            try simp only [Act.put, List.setIfInBounds_toArray, List.set_cons_zero, List.set_cons_succ]
            refine wpAnyIn_ready (rs := [0]) (by kernel_rfl) (by simp) (AllReadyIn.cons (o := { dst := some 17, op := Op.load 27 (Operand.tmp 1), type := 27, pos := "typing.go:61", after := #[], guard := none }) rfl (fun K hK => ?_) AllReadyIn.nil)
            go_simp
            refine hK _ _ ?_
            clear hK K
            try simp only [Act.put, List.setIfInBounds_toArray, List.set_cons_zero, List.set_cons_succ]
            refine wpAnyIn_ready (rs := [5]) (by kernel_rfl) (by simp) (AllReadyIn.cons (o := { dst := some 22, op := Op.call { callee := Callee.value (Operand.func 57), args := #[Operand.tmp 17, Operand.tmp 18, Operand.tmp 21], argTypes := #[27, 3, 58] }, type := 4, pos := "typing.go:61", after := #[{ on := 0, ground := Ground.data }, { on := 1, ground := Ground.data }, { on := 4, ground := Ground.data }, { on := 4, ground := Ground.chain }], guard := none }) rfl (fun K hK => ?_) AllReadyIn.nil)
            go_simp
            refine ⟨trivial, ?_⟩
            gi_at_call 57
            (with_reducible refine (callsIn_wide.2 (set_any (HI'.out.pl.below B6.out) (dlS L cur pre).2 ⟨zb, zg, zs, zl, zc⟩)).mono ?_)
            rintro e' W8 ⟨rfl, hp8, ht8⟩
            have HP8 := Lib.hid hp8
            have HT8 := Lib.hid ht8
            clear hp8 ht8
            refine hK _ _ ?_
            clear hK K
            try simp only [Act.put, List.setIfInBounds_toArray, List.set_cons_zero, List.set_cons_succ]
            refine wpAnyIn_done (by kernel_rfl) ?_ _
            have hD := dl_step HI'.out B6.out HZ.out HP8.out HT8.out hsW
            have HD := Lib.hid hD
            have r1 := hD.1
            have r1f := hD.2.1
            clear hD
            gi_wp2
            exact ⟨(HD.out.2.2.2 _ (by omega)).1, (HD.out.2.2.2 _ (by omega)).2, HD.out.2.2.1⟩
        · go_simp
          refine ⟨trivial, ?_⟩
          gi_at_call 40
          (with_reducible refine (callsIn_wide.2 (at_any HP.out x)).mono ?_)
          rintro e' W6 ⟨he, hb6⟩
          rw [← HZ.out] at he
          simp only [Cl.val] at he
          subst he
          have z0 := cell_later hb6 q0
          have z1 := cell_later hb6 q1
          have B6 := Lib.hid (below_undrew hb6)
          clear hb6
          refine hK _ _ ?_
          clear hK K
          try simp only [Act.put, List.setIfInBounds_toArray, List.set_cons_zero, List.set_cons_succ]
          refine wpAnyIn_ready (rs := [0, 1]) (by kernel_rfl) (by simp) (AllReadyIn.cons (o := { dst := some 17, op := Op.load 27 (Operand.tmp 1), type := 27, pos := "typing.go:61", after := #[], guard := none }) rfl (fun K hK => ?_) (AllReadyIn.cons (o := { dst := some 18, op := Op.load 3 (Operand.tmp 4), type := 3, pos := "typing.go:61", after := #[], guard := none }) rfl (fun K hK => ?_) AllReadyIn.nil))
          · go_simp
            refine hK _ _ ?_
            clear hK K
            try simp only [Act.put, List.setIfInBounds_toArray, List.set_cons_zero, List.set_cons_succ]
            refine wpAnyIn_ready (rs := [1]) (by kernel_rfl) (by simp) (AllReadyIn.cons (o := { dst := some 18, op := Op.load 3 (Operand.tmp 4), type := 3, pos := "typing.go:61", after := #[], guard := none }) rfl (fun K hK => ?_) AllReadyIn.nil)
            go_simp
            refine hK _ _ ?_
            clear hK K
            try simp only [Act.put, List.setIfInBounds_toArray, List.set_cons_zero, List.set_cons_succ]
            refine wpAnyIn_ready (rs := [5]) (by kernel_rfl) (by simp) (AllReadyIn.cons (o := { dst := some 22, op := Op.call { callee := Callee.value (Operand.func 57), args := #[Operand.tmp 17, Operand.tmp 18, Operand.tmp 21], argTypes := #[27, 3, 58] }, type := 4, pos := "typing.go:61", after := #[{ on := 0, ground := Ground.data }, { on := 1, ground := Ground.data }, { on := 4, ground := Ground.data }, { on := 4, ground := Ground.chain }], guard := none }) rfl (fun K hK => ?_) AllReadyIn.nil)
            go_simp
            refine ⟨trivial, ?_⟩
            gi_at_call 57
            (with_reducible refine (callsIn_wide.2 (set_any (HI'.out.pl.below B6.out) (dlS L cur pre).2 ⟨zb, zg, zs, zl, zc⟩)).mono ?_)
            rintro e' W8 ⟨rfl, hp8, ht8⟩
            have HP8 := Lib.hid hp8
            have HT8 := Lib.hid ht8
            clear hp8 ht8
            refine hK _ _ ?_
            clear hK K
            try simp only [Act.put, List.setIfInBounds_toArray, List.set_cons_zero, List.set_cons_succ]
            refine wpAnyIn_done (by kernel_rfl) ?_ _
            have hD := dl_step HI'.out B6.out HZ.out HP8.out HT8.out hsW
            have HD := Lib.hid hD
            have r1 := hD.1
            have r1f := hD.2.1
            clear hD
            gi_wp2
            exact ⟨(HD.out.2.2.2 _ (by omega)).1, (HD.out.2.2.2 _ (by omega)).2, HD.out.2.2.1⟩
          · go_simp
            refine hK _ _ ?_
            clear hK K
            try simp only [Act.put, List.setIfInBounds_toArray, List.set_cons_zero, List.set_cons_succ]
            refine wpAnyIn_ready (rs := [0]) (by kernel_rfl) (by simp) (AllReadyIn.cons (o := { dst := some 17, op := Op.load 27 (Operand.tmp 1), type := 27, pos := "typing.go:61", after := #[], guard := none }) rfl (fun K hK => ?_) AllReadyIn.nil)
            go_simp
            refine hK _ _ ?_
            clear hK K
            try simp only [Act.put, List.setIfInBounds_toArray, List.set_cons_zero, List.set_cons_succ]
            refine wpAnyIn_ready (rs := [5]) (by kernel_rfl) (by simp) (AllReadyIn.cons (o := { dst := some 22, op := Op.call { callee := Callee.value (Operand.func 57), args := #[Operand.tmp 17, Operand.tmp 18, Operand.tmp 21], argTypes := #[27, 3, 58] }, type := 4, pos := "typing.go:61", after := #[{ on := 0, ground := Ground.data }, { on := 1, ground := Ground.data }, { on := 4, ground := Ground.data }, { on := 4, ground := Ground.chain }], guard := none }) rfl (fun K hK => ?_) AllReadyIn.nil)
            go_simp
            refine ⟨trivial, ?_⟩
            gi_at_call 57
            (with_reducible refine (callsIn_wide.2 (set_any (HI'.out.pl.below B6.out) (dlS L cur pre).2 ⟨zb, zg, zs, zl, zc⟩)).mono ?_)
            rintro e' W8 ⟨rfl, hp8, ht8⟩
            have HP8 := Lib.hid hp8
            have HT8 := Lib.hid ht8
            clear hp8 ht8
            refine hK _ _ ?_
            clear hK K
            try simp only [Act.put, List.setIfInBounds_toArray, List.set_cons_zero, List.set_cons_succ]
            refine wpAnyIn_done (by kernel_rfl) ?_ _
            have hD := dl_step HI'.out B6.out HZ.out HP8.out HT8.out hsW
            have HD := Lib.hid hD
            have r1 := hD.1
            have r1f := hD.2.1
            clear hD
            gi_wp2
            exact ⟨(HD.out.2.2.2 _ (by omega)).1, (HD.out.2.2.2 _ (by omega)).2, HD.out.2.2.1⟩
    case done =>
      rintro D ys W hD rfl hI' hK
      have q0 : W.cell? ⟨w.heap.size, 0, none⟩ = some (.pointer (some ⟨b, 0, none⟩)) := by simp [World.cell?, hI'.b0]
      have q1 : W.cell? ⟨sl, 0, none⟩ = some (.int .i64 (dlS L cur (rowL L cur)).2) := by simp [World.cell?, hI'.bl]
      have HI' := Lib.hid hI'
      obtain ⟨la, hla⟩ : ∃ la, la = (dlS L cur (rowL L cur)).2 := ⟨_, rfl⟩
      obtain ⟨M, hM⟩ : ∃ M, M = (dlS L cur (rowL L cur)).1 := ⟨_, rfl⟩
      have hMb : BoL M := by rw [hM]; exact bo_dlS HBO.out _ _
      have hPM := hI'.pl
      rw [← hla] at q1
      rw [← hM] at hPM
      have HRF := Lib.hid (show R = (markL (setL M la c0) cur, cur, 0) by rw [HRR.out, hM, hla]; simp)
      have HPM := Lib.hid hPM
      have HMB := Lib.hid (bo_setT hMb la (x := c0) (by decide))
      have HB0 := Lib.hid hI'.b0
      have hgl := HLL.out
      clear hI' hla hM hMb hPM
      gi_wp2_with fail
      refine ⟨trivial, ?_⟩
      refine (callsIn_wide.2 (set_any HPM.out la c0)).mono ?_
      rintro e' W8 ⟨rfl, hp8, ht8⟩
      have e8 := (ht8.block _ (lt_of_block HB0.out) (by unfold At; omega)).trans HB0.out
      have q8 : W8.cell? ⟨w.heap.size, 0, none⟩ = some (.pointer (some ⟨b, 0, none⟩)) := by simp [World.cell?, e8]
      have HP8 := Lib.hid hp8
      have HT8 := Lib.hid (HI'.out.tn.trans ht8)
      have hK8 := (ht8.block D (lt_of_block hK) (by unfold At; omega)).trans hK
      clear hp8 e8 q0 q1
      gi_wp2_with fail
      refine ⟨trivial, ?_⟩
      refine (callsIn_wide.2 (mark_any HP8.out cur HMB.out)).mono ?_
      rintro e' W9 ⟨rfl, hp9, ht9⟩
      have HP9 := Lib.hid hp9
      have HT9 := Lib.hid (HT8.out.trans ht9)
      have hK9 := (ht9.block D (lt_of_block hK8) (by unfold At; omega)).trans hK8
      clear hp9 ht9 ht8
      gi_wp2
      refine ⟨by simp, .inl ⟨_, _, rfl, run_takeDeferred hK9, ?_⟩⟩
      refine ⟨_, results_tmp rfl _ _ _, ?_⟩
      rw [HRF.out]
      refine ⟨rfl, ⟨HP9.out.grown (grownBy_putObj' _ D (.deferred none)) (fun k ek => by cases ek; exact ⟨_, hK9, rfl⟩), ?_⟩⟩
      exact (HT9.out.grown (grownBy_putObj' _ D (.deferred none)) (fun k ek => by cases ek; left; omega)).mono fun k hk => .inr hk
    case stop =>
      rintro D c' pre W hD hpre hx hK
      exact hx.elim
theorem del_any {w : World} {b g : Nat} {r c cur : Int} {L : List Cl} (h : PlAt w b g r c cur L) (hbo : BoL L) :
    Calls Try.prog 52 #[.pointer (some ⟨b, 0, none⟩)] w (PutP w b g r c (delM L cur)) := callsIn_wide.1 (del_in h hbo)
end Go.Proofs.Ytlcjiffnmpkndaa.Pl
