/-
  The walk of IacWrites.
-/
import Derived.Test.YtimidoaafllnkaaRefV
import Derived.Test.YtimidoaafllnkaaRefC
import Derived.Test.YtimidoaafllnkaaIacAlive
import Derived.Test.YtimidoaafllnkaaOpenF
namespace Go.Proofs.Ytimidoaafllnkaa.Iac
open Go.RowKit Base
set_option linter.unusedVariables false
set_option linter.unusedSimpArgs false

structure LQ (w : World) (ob : Nat) (x0 x1 x2 x3 : Value) (Z : World) : Prop where
  box : Z.heap[ob]? = some (.cells #[x0, x1, x2, x3] 26 (0, 0))
  old : Below w.heap.size w Z
theorem LQ.below {w Z Z' : World} {ob : Nat} {x0 x1 x2 x3 : Value} (h : LQ w ob x0 x1 x2 x3 Z) (t : Below Z.heap.size Z Z') : LQ w ob x0 x1 x2 x3 Z' := ⟨(t.block ob (lt_of_block h.box)).trans h.box, h.old.trans (t.mono h.old.size)⟩
theorem LQ.cell {w Z : World} {ob : Nat} {x0 x1 x2 x3 : Value} (h : LQ w ob x0 x1 x2 x3 Z) : Z.cell? ⟨ob, 3, none⟩ = some x3 := by simp [World.cell?, h.box]
/-- All that was. -/
def OQ (w Z : World) : Prop := Below w.heap.size w Z
theorem OQ.below {w Z Z' : World} (h : OQ w Z) (t : Below Z.heap.size Z Z') : OQ w Z' := Below.trans h (t.mono h.size)
theorem writeL_tell (o : Int) (B : List Int) : writeL [⟨5, 0, o, B⟩] = tellL o B := by simp [writeL, writtenL]
theorem writeL_rec (B : List Int) : writeL [⟨1, 0, 0, B⟩, ⟨2, 0, 0, []⟩] = escL B ++ [255, 239] := by simp [writeL, writtenL]
theorem ev1_new (W : World) (k c o : Int) (u : Value) (B : List Int) (h : RowOf .u8 W u B) : EvsAt (W.alloc (.cells #[.int .i64 k, .int .u8 c, .int .u8 o, u] 32)) (.slice (some ⟨W.heap.size, 0, none⟩) 1 1) [⟨k, c, o, B⟩] := by
  have hb := below_alloc W (.cells #[.int .i64 k, .int .u8 c, .int .u8 o, u] 32)
  refine ⟨_, 1, rfl, fun _ => ⟨W.heap.size, 0, rfl, by simp, fun i e hi => ?_⟩⟩
  match i, hi with
  | 0, hi =>
    simp at hi; subst hi
    exact ⟨u, by simp [go_sem], by simp [go_sem], by simp [go_sem], by simp [go_sem], h.below hb⟩
theorem ev2_new (W : World) (u : Value) (B : List Int) (h : RowOf .u8 W u B) : EvsAt (W.alloc (.cells #[.int .i64 1, .int .u8 0, .int .u8 0, u, .int .i64 2, .int .u8 0, .int .u8 0, .slice none 0 0] 32)) (.slice (some ⟨W.heap.size, 0, none⟩) 2 2) [⟨1, 0, 0, B⟩, ⟨2, 0, 0, []⟩] := by
  have hb := below_alloc W (.cells #[.int .i64 1, .int .u8 0, .int .u8 0, u, .int .i64 2, .int .u8 0, .int .u8 0, .slice none 0 0] 32)
  refine ⟨_, 2, rfl, fun _ => ⟨W.heap.size, 0, rfl, by simp, fun i e hi => ?_⟩⟩
  match i, hi with
  | 0, hi =>
    simp at hi; subst hi
    exact ⟨u, by simp [go_sem], by simp [go_sem], by simp [go_sem], by simp [go_sem], h.below hb⟩
  | 1, hi =>
    simp at hi; subst hi
    exact ⟨.slice none 0 0, by simp [go_sem], by simp [go_sem], by simp [go_sem], by simp [go_sem], RowOf.nil _ _⟩
theorem writtenL_le (e : Ev) (h : e.bytes.length ≤ 400) : (writtenL e).length ≤ 810 := by
  have h1 := escL_le e.bytes
  have h2 := escL_le [e.option]
  simp at h2
  unfold writtenL tellL
  repeat' split
  all_goals simp
  all_goals omega
theorem writeL_le (L : List Ev) (h : ∀ e ∈ L, e.bytes.length ≤ 400) : (writeL L).length ≤ 810 * L.length := by
  induction L with
  | nil => simp [writeL]
  | cons e L ih =>
    have h1 := writtenL_le e (h e (by simp))
    have h2 := ih fun x hx => h x (by simp [hx])
    have : writeL (e :: L) = writtenL e ++ writeL L := by simp [writeL]
    rw [this, List.length_append, List.length_cons]
    omega
theorem totE_le (L : List Ev) (h : ∀ e ∈ L, e.bytes.length ≤ 400) : totE L ≤ 400 * L.length := by
  induction L with
  | nil => simp [totE]
  | cons e L ih =>
    have h1 := h e (by simp)
    have h2 := ih fun x hx => h x (by simp [hx])
    have : totE (e :: L) = e.bytes.length + totE L := by simp [totE]
    rw [this, List.length_cons]
    omega
theorem joinE_le (J : List Ev) (e : Ev) : totE (joinE J e) ≤ totE J + e.bytes.length ∧ (joinE J e).length ≤ J.length + 1 := by
  unfold joinE
  split
  · omega
  · have := addL_tot J e
    omega
theorem joinL_le (L : List Ev) : totE (joinL L) ≤ totE L ∧ (joinL L).length ≤ L.length := by
  have key : ∀ (L J : List Ev), totE (L.foldl joinE J) ≤ totE J + totE L ∧ (L.foldl joinE J).length ≤ J.length + L.length := by
    intro L
    induction L with
    | nil => intro J; simp [totE]
    | cons e L ih =>
      intro J
      have h1 := joinE_le J e
      have h2 := ih (joinE J e)
      have : totE (e :: L) = e.bytes.length + totE L := by simp [totE]
      rw [List.foldl_cons, this, List.length_cons]
      omega
  have := key L []
  simpa [joinL, totE] using this
theorem totE_mem (L : List Ev) (e : Ev) (h : e ∈ L) : e.bytes.length ≤ totE L := by
  induction L with
  | nil => simp at h
  | cons f L ih =>
    have : totE (f :: L) = f.bytes.length + totE L := by simp [totE]
    rw [this]
    rcases List.mem_cons.1 h with rfl | h
    · omega
    · have := ih h; omega
set_option maxRecDepth 100000 in
set_option maxHeartbeats 32000000 in
theorem iacWrites_law {w : World} (v : Value) (L : List Ev) {R : Prop} (hL : EvsAt w v L ∧ L.length ≤ maxLen ∧ R) (opt : Int) (hopt : (Lit.int .u8 opt).wf = true) : Calls Try.prog 3 #[v, .int .u8 opt] w fun e W' => e = .returned (.bool true) ∧ Below w.heap.size w W' := by
  obtain ⟨hE, hLm, _⟩ := hL
  have HE := Lib.hid hE
  have HALI := Lib.hid (alive_any w)
  obtain ⟨va, vc, rfl, hrow⟩ := id hE
  obtain ⟨n, hn⟩ : ∃ n, n = L.length := ⟨_, rfl⟩
  have HN := Lib.hid hn
  have HR := Lib.hid hrow
  rw [← hn] at HE hLm ⊢
  have hnm : n ≤ 9223372036854775807 := by simp [maxLen] at hLm; omega
  clear hE hrow hopt hn hLm
  by_cases h60 : (60 : Int) < (n : Int)
  · go_enter Try.func3, Try.ntmps3
    go_wp2_with fail
    refine HALI.out.mono ?_
    rintro e W1 ⟨rfl, b1⟩
    have HB1 := Lib.hid b1
    clear b1
    go_wp2_with fail
    go_ret
    exact ⟨rfl, HB1.out⟩
  have h60n : n ≤ 60 := by omega
  have HL60 : Hid (L.length ≤ 60) := Lib.hid (by rw [← HN.out]; exact h60n)
  have HLM : Hid (L.length ≤ 100000) := Lib.hid (by rw [← HN.out]; omega)
  go_enter Try.func3, Try.ntmps3
  go_wp2_with fail
  refine HALI.out.mono ?_
  rintro e W1 ⟨rfl, b1⟩
  have HB1 := Lib.hid b1
  clear b1
  go_upto_region 6 with fail
  go_loopw [14] (fun i wr => ∃ k : Nat, k ≤ n ∧ i = .int .i64 k ∧ Hid (∀ (j : Nat) (q : Ev), j < k → L[j]? = some q → q.bytes.length ≤ 400) ∧ Hid (Below w.heap.size w wr)) (fun i _ => n - (intOf i).toNat)
  case atStart => exact ⟨0, by omega, rfl, Lib.hid (fun j q hj => absurd hj (by omega)), HB1⟩
  case round =>
    obtain ⟨k, hk, rfl, hno, hold⟩ := hrel
    clear HB1
    by_cases hkn : k < n
    · have hkni : (k : Int) < (n : Int) := by omega
      have hkl : k < L.length := by rw [← HN.out]; exact hkn
      obtain ⟨g, off, rfl, hgl, hc⟩ := HR.out (by intro e; rw [e] at hkl; simp at hkl)
      obtain ⟨q, hq⟩ : ∃ q, L[k]? = some q := ⟨_, List.getElem?_eq_getElem hkl⟩
      obtain ⟨u, d0, d1, d2, d3, hu⟩ := hc k q hq
      have d0 := (hold.out.cell (p := ⟨g, off + k * 4, none⟩) hgl).trans d0
      have d1 := (hold.out.cell (p := ⟨g, off + k * 4 + 1, none⟩) hgl).trans d1
      have d2 := (hold.out.cell (p := ⟨g, off + k * 4 + 2, none⟩) hgl).trans d2
      have d3 := (hold.out.cell (p := ⟨g, off + k * 4 + 3, none⟩) hgl).trans d3
      obtain ⟨ua, uc, hue, hur⟩ := id hu
      subst hue
      have HQE := Lib.hid hq
      obtain ⟨kd, code, po, B⟩ := q
      simp only at d0 d1 d2 d3 hu
      obtain ⟨ul, hul⟩ : ∃ ul, ul = B.length := ⟨_, rfl⟩
      have HU := Lib.hid hu
      have HUL := Lib.hid hul
      rw [← hul] at d3 HU
      have hb1 := below_alloc wr (.cells #[.int .i64 kd, .int .u8 code, .int .u8 po, .slice ua ul uc] 26)
      have hblk := heap_alloc_new wr (.cells #[.int .i64 kd, .int .u8 code, .int .u8 po, .slice ua ul uc] 26)
      obtain ⟨V1, hV1⟩ : ∃ V1, V1 = wr.alloc (.cells #[.int .i64 kd, .int .u8 code, .int .u8 po, .slice ua ul uc] 26) := ⟨_, rfl⟩
      obtain ⟨ob, hob⟩ : ∃ ob, ob = wr.heap.size := ⟨_, rfl⟩
      rw [← hV1] at hb1 hblk
      rw [← hob] at hblk
      have HQ : Hid (LQ w ob (.int .i64 kd) (.int .u8 code) (.int .u8 po) (.slice ua ul uc) V1) := Lib.hid ⟨hblk, hold.out.trans (hb1.mono hold.out.size)⟩
      have HV1 := Lib.hid hV1.symm
      have HOB := Lib.hid hob.symm
      clear hc hkl hgl hq hu hur hul hold hb1 hblk hV1 hob
      by_cases h400 : (400 : Int) < (ul : Int)
      · go_upto_region 8 with fail
        rw [HV1.out, HOB.out]
        have c3 := HQ.out.cell
        have HO := Lib.hid HQ.out.old
        clear d0 d1 d2 d3
        go_wp2_with fail
        go_ret
        exact ⟨rfl, HO.out⟩
      · have hB400 : B.length ≤ 400 := by have := HUL.out; omega
        have HB400 : Hid (({ kind := kd, code := code, option := po, bytes := B } : Ev).bytes.length ≤ 400) := Lib.hid hB400
        have HBL : Hid (B.length ≤ 100000) := Lib.hid (by omega)
        have hel := escL_le B
        have hel2 := escL_le [opt]
        have HEL : Hid ((escL B).length ≤ maxLen) := Lib.hid (by unfold maxLen; omega)
        have HTL : Hid ((tellL opt B).length ≤ 1000000) := Lib.hid (by unfold tellL; simp at hel2 ⊢; omega)
        have HRL : Hid ((escL B ++ [255, 239]).length ≤ 1000000) := Lib.hid (by simp; omega)
        have HNX : Hid (∀ (j : Nat) (q : Ev), j < k + 1 → L[j]? = some q → q.bytes.length ≤ 400) := Lib.hid (fun j q hj hq => by
          by_cases h : j < k
          · exact hno.out j q h hq
          · obtain rfl : j = k := by omega
            rw [HQE.out] at hq
            cases hq
            exact HB400.out)
        clear hB400 hel hel2
        go_upto_region 8 with fail
        rw [HV1.out, HOB.out]
        have c3 := HQ.out.cell
        clear d0 d1 d2 d3
        go_upto_region 10 with fail
        clear c3
        have HQ0 := Lib.hid (HQ.out.below (Below.refl _ _).drew)
        obtain ⟨Z0, hZ0⟩ : ∃ Y, Y = V1.drew := ⟨_, rfl⟩
        rw [← hZ0] at HQ0
        refine wp_region_held_drew (S := (fun Z => Z.cell? ⟨ob, 3, none⟩ = some (.slice ua ul uc))) (by kernel_rfl) ((HQ.out.below (Below.refl _ _).drew).cell) (fun hHeld => ?_)
        rw [← hZ0] at hHeld ⊢
        clear hZ0 HQ
        refine wpAnyH_take (i := 0) (oi := { dst := some 22, op := Op.fieldAddr 26 (Operand.tmp 6) 3, type := 0, pos := "law.go:83", after := #[], guard := none }) (v := ?_) rfl (by kernel_rfl) (by kernel_rfl) (by kernel_rfl) (fun _ _ _ h => h) (Or.inl ⟨by rfl, ?_⟩) (by assumption) ?_
        rotate_left
        focus (intro w hSw; (try dsimp only at hSw); go_simp; try (with_reducible rfl))
        try simp only [Act.put, List.setIfInBounds_toArray, List.set_cons_zero, List.set_cons_succ]
        refine wpAnyH_take (i := 1) (oi := { dst := some 23, op := Op.load 24 (Operand.tmp 22), type := 24, pos := "law.go:83", after := #[{ on := 0, ground := Ground.data }], guard := none }) (v := ?_) rfl (by kernel_rfl) (by kernel_rfl) (by kernel_rfl) (fun _ _ _ h => h) (Or.inl ⟨by rfl, ?_⟩) (by assumption) ?_
        rotate_left
        focus (intro w hSw; (try dsimp only at hSw); go_simp; try (with_reducible rfl))
        try simp only [Act.put, List.setIfInBounds_toArray, List.set_cons_zero, List.set_cons_succ]
        refine wpAnyH_take (i := 3) (oi := { dst := some 25, op := Op.fieldAddr 26 (Operand.tmp 6) 3, type := 0, pos := "law.go:83", after := #[], guard := none }) (v := ?_) rfl (by kernel_rfl) (by kernel_rfl) (by kernel_rfl) (fun _ _ _ h => h) (Or.inl ⟨by rfl, ?_⟩) (by assumption) ?_
        rotate_left
        focus (intro w hSw; (try dsimp only at hSw); go_simp; try (with_reducible rfl))
        try simp only [Act.put, List.setIfInBounds_toArray, List.set_cons_zero, List.set_cons_succ]
        refine wpAnyH_take (i := 4) (oi := { dst := some 26, op := Op.load 24 (Operand.tmp 25), type := 24, pos := "law.go:83", after := #[{ on := 3, ground := Ground.data }], guard := none }) (v := ?_) rfl (by kernel_rfl) (by kernel_rfl) (by kernel_rfl) (fun _ _ _ h => h) (Or.inl ⟨by rfl, ?_⟩) (by assumption) ?_
        rotate_left
        focus (intro w hSw; (try dsimp only at hSw); go_simp; try (with_reducible rfl))
        try simp only [Act.put, List.setIfInBounds_toArray, List.set_cons_zero, List.set_cons_succ]
        refine wpAnyH_ready (rs := [2]) (by kernel_rfl) (by simp) (AllReadyH.cons (o := { dst := some 24, op := Op.call { callee := Callee.value (Operand.func 12), args := #[Operand.tmp 23], argTypes := #[24] }, type := 24, pos := "law.go:83", after := #[{ on := 1, ground := Ground.data }], guard := none }) rfl (fun K hK => ?_) AllReadyH.nil)
        rw [if_pos (by rfl)]
        go_simp
        (go_at_call 12; refine (escape_any _ B _ (HU.out.below HQ0.out.old) HBL.out).mono ?_; rintro e Z1 ⟨pa, rfl, hp, t0⟩)
        go_wp2_with fail
        refine hK.out _ _ ((HQ0.out.below t0).cell) (fun hHeld => ?_)
        clear hK K
        try simp only [Act.put, List.setIfInBounds_toArray, List.set_cons_zero, List.set_cons_succ]
        have RA1 := Lib.hid (hp.row)
        have HQ1 := Lib.hid (HQ0.out.below t0)
        clear HQ0
        clear t0
        refine wpAnyH_ready (rs := [5]) (by kernel_rfl) (by simp) (AllReadyH.cons (o := { dst := some 27, op := Op.call { callee := Callee.value (Operand.func 13), args := #[Operand.tmp 26], argTypes := #[24] }, type := 24, pos := "law.go:83", after := #[{ on := 4, ground := Ground.data }, { on := 2, ground := Ground.chain }], guard := none }) rfl (fun K hK => ?_) AllReadyH.nil)
        rw [if_pos (by rfl)]
        go_simp
        (go_at_call 13; refine (rescape_any _ B _ (HU.out.below HQ1.out.old) HBL.out).mono ?_; rintro e Z2 ⟨pb, rfl, hp, t1⟩)
        go_wp2_with fail
        refine hK.out _ _ ((HQ1.out.below t1).cell) (fun hHeld => ?_)
        clear hK K
        try simp only [Act.put, List.setIfInBounds_toArray, List.set_cons_zero, List.set_cons_succ]
        have RB2 := Lib.hid (hp.row)
        have HQ2 := Lib.hid (HQ1.out.below t1)
        have RA2 := Lib.hid (RA1.out.below t1)
        clear HQ1 RA1
        clear t1
        refine wpAnyH_ready (rs := [6]) (by kernel_rfl) (by simp) (AllReadyH.cons (o := { dst := some 28, op := Op.call { callee := Callee.value (Operand.func 11), args := #[Operand.tmp 24, Operand.tmp 27], argTypes := #[24, 24] }, type := 4, pos := "law.go:83", after := #[{ on := 2, ground := Ground.data }, { on := 5, ground := Ground.data }, { on := 5, ground := Ground.chain }], guard := none }) rfl (fun K hK => ?_) AllReadyH.nil)
        rw [if_pos (by rfl)]
        go_simp
        (go_at_call 11; refine (same_true _ _ (escL B) _ RA2.out RB2.out HEL.out).mono ?_; rintro e Z3 ⟨rfl, nn, hz⟩)
        have t2 : Below Z2.heap.size Z2 Z3 := by rw [hz]; exact ⟨rfl, rfl, rfl, Nat.le_refl _, fun _ _ => rfl⟩
        clear hz
        go_wp2_with fail
        refine hK.out _ _ ((HQ2.out.below t2).cell) (fun hHeld => ?_)
        clear hK K
        try simp only [Act.put, List.setIfInBounds_toArray, List.set_cons_zero, List.set_cons_succ]
        have HQ3 := Lib.hid (HQ2.out.below t2)
        have RA3 := Lib.hid (RA2.out.below t2)
        have RB3 := Lib.hid (RB2.out.below t2)
        clear HQ2 RA2 RB2
        clear t2
        refine wpAnyH_take (i := 7) (oi := { dst := some 29, op := Op.unOp UnOp.not 4 (Operand.tmp 28), type := 4, pos := "law.go:83", after := #[{ on := 6, ground := Ground.data }], guard := none }) (v := ?_) rfl (by kernel_rfl) (by kernel_rfl) (by kernel_rfl) (fun _ _ _ h => h) (Or.inl ⟨by rfl, ?_⟩) (by assumption) ?_
        rotate_left
        focus (intro w hSw; (try dsimp only at hSw); go_simp; try (with_reducible rfl))
        try simp only [Act.put, List.setIfInBounds_toArray, List.set_cons_zero, List.set_cons_succ]
        refine wpAnyH_take (i := 8) (oi := { dst := some 30, op := Op.move (Operand.tmp 29), type := 4, pos := "law.go:83", after := #[{ on := 7, ground := Ground.data }, { on := 6, ground := Ground.chain }], guard := none }) (v := ?_) rfl (by kernel_rfl) (by kernel_rfl) (by kernel_rfl) (fun _ _ _ h => h) (Or.inl ⟨by rfl, ?_⟩) (by assumption) ?_
        rotate_left
        focus (intro w hSw; (try dsimp only at hSw); go_simp; try (with_reducible rfl))
        try simp only [Act.put, List.setIfInBounds_toArray, List.set_cons_zero, List.set_cons_succ]
        refine wpAnyH_take (i := 9) (oi := { dst := some 31, op := Op.move (Operand.tmp 1), type := 5, pos := "law.go:83", after := #[{ on := 8, ground := Ground.guard }], guard := some (8, false) }) (v := ?_) rfl (by kernel_rfl) (by kernel_rfl) (by kernel_rfl) (fun _ _ _ h => h) (Or.inl ⟨by rfl, ?_⟩) (by assumption) ?_
        rotate_left
        focus (intro w hSw; (try dsimp only at hSw); go_simp; try (with_reducible rfl))
        try simp only [Act.put, List.setIfInBounds_toArray, List.set_cons_zero, List.set_cons_succ]
        refine wpAnyH_take (i := 10) (oi := { dst := some 32, op := Op.fieldAddr 26 (Operand.tmp 6) 3, type := 0, pos := "law.go:83", after := #[{ on := 8, ground := Ground.guard }], guard := some (8, false) }) (v := ?_) rfl (by kernel_rfl) (by kernel_rfl) (by kernel_rfl) (fun _ _ _ h => h) (Or.inl ⟨by rfl, ?_⟩) (by assumption) ?_
        rotate_left
        focus (intro w hSw; (try dsimp only at hSw); go_simp; try (with_reducible rfl))
        try simp only [Act.put, List.setIfInBounds_toArray, List.set_cons_zero, List.set_cons_succ]
        refine wpAnyH_take (i := 11) (oi := { dst := some 33, op := Op.load 24 (Operand.tmp 32), type := 24, pos := "law.go:83", after := #[{ on := 10, ground := Ground.data }, { on := 8, ground := Ground.guard }], guard := some (8, false) }) (v := ?_) rfl (by kernel_rfl) (by kernel_rfl) (by kernel_rfl) (fun _ _ _ h => h) (Or.inl ⟨by rfl, ?_⟩) (by assumption) ?_
        rotate_left
        focus (intro w hSw; (try dsimp only at hSw); go_simp; try (with_reducible rfl))
        try simp only [Act.put, List.setIfInBounds_toArray, List.set_cons_zero, List.set_cons_succ]
        refine wpAnyH_take (i := 13) (oi := { dst := some 35, op := Op.move (Operand.tmp 1), type := 5, pos := "law.go:83", after := #[{ on := 8, ground := Ground.guard }], guard := some (8, false) }) (v := ?_) rfl (by kernel_rfl) (by kernel_rfl) (by kernel_rfl) (fun _ _ _ h => h) (Or.inl ⟨by rfl, ?_⟩) (by assumption) ?_
        rotate_left
        focus (intro w hSw; (try dsimp only at hSw); go_simp; try (with_reducible rfl))
        try simp only [Act.put, List.setIfInBounds_toArray, List.set_cons_zero, List.set_cons_succ]
        refine wpAnyH_take (i := 14) (oi := { dst := some 36, op := Op.fieldAddr 26 (Operand.tmp 6) 3, type := 0, pos := "law.go:83", after := #[{ on := 8, ground := Ground.guard }], guard := some (8, false) }) (v := ?_) rfl (by kernel_rfl) (by kernel_rfl) (by kernel_rfl) (fun _ _ _ h => h) (Or.inl ⟨by rfl, ?_⟩) (by assumption) ?_
        rotate_left
        focus (intro w hSw; (try dsimp only at hSw); go_simp; try (with_reducible rfl))
        try simp only [Act.put, List.setIfInBounds_toArray, List.set_cons_zero, List.set_cons_succ]
        refine wpAnyH_take (i := 15) (oi := { dst := some 37, op := Op.load 24 (Operand.tmp 36), type := 24, pos := "law.go:83", after := #[{ on := 14, ground := Ground.data }, { on := 8, ground := Ground.guard }], guard := some (8, false) }) (v := ?_) rfl (by kernel_rfl) (by kernel_rfl) (by kernel_rfl) (fun _ _ _ h => h) (Or.inl ⟨by rfl, ?_⟩) (by assumption) ?_
        rotate_left
        focus (intro w hSw; (try dsimp only at hSw); go_simp; try (with_reducible rfl))
        try simp only [Act.put, List.setIfInBounds_toArray, List.set_cons_zero, List.set_cons_succ]
        refine wpAnyH_take (i := 16) (oi := { dst := some 38, op := Op.build 32 #[(0, Operand.const (Value.int IntKind.i64 5)), (2, Operand.tmp 35), (3, Operand.tmp 37)], type := 32, pos := "law.go:83", after := #[{ on := 13, ground := Ground.data }, { on := 15, ground := Ground.data }, { on := 8, ground := Ground.guard }], guard := some (8, false) }) (v := ?_) rfl (by kernel_rfl) (by kernel_rfl) (by kernel_rfl) (fun _ _ _ h => h) (Or.inl ⟨by rfl, ?_⟩) (by assumption) ?_
        rotate_left
        focus (intro w hSw; (try dsimp only at hSw); go_simp; try (with_reducible rfl))
        try simp only [Act.put, List.setIfInBounds_toArray, List.set_cons_zero, List.set_cons_succ]
        refine wpAnyH_ready (rs := [12, 17]) (by kernel_rfl) (by simp) (AllReadyH.cons (o := { dst := some 34, op := Op.call { callee := Callee.value (Operand.func 14), args := #[Operand.tmp 31, Operand.tmp 33], argTypes := #[5, 24] }, type := 24, pos := "law.go:83", after := #[{ on := 9, ground := Ground.data }, { on := 11, ground := Ground.data }, { on := 8, ground := Ground.chain }, { on := 8, ground := Ground.guard }], guard := some (8, false) }) rfl (fun K hK => ?_) (AllReadyH.cons (o := { dst := some 39, op := Op.buildSlice 33 1 #[(0, Operand.tmp 38)], type := 33, pos := "law.go:83", after := #[{ on := 16, ground := Ground.data }, { on := 8, ground := Ground.guard }], guard := some (8, false) }) rfl (fun K hK => ?_) AllReadyH.nil))
        · rw [if_pos (by rfl)]
          go_simp
          (go_at_call 14; refine (tell_any opt _ B _ (HU.out.below HQ3.out.old) HBL.out).mono ?_; rintro e Z4 ⟨pc, rfl, hp, t3⟩)
          go_wp2_with fail
          refine hK.out _ _ ((HQ3.out.below t3).cell) (fun hHeld => ?_)
          clear hK K
          try simp only [Act.put, List.setIfInBounds_toArray, List.set_cons_zero, List.set_cons_succ]
          have RC4 := Lib.hid (hp.row)
          have HQ4 := Lib.hid (HQ3.out.below t3)
          have RA4 := Lib.hid (RA3.out.below t3)
          have RB4 := Lib.hid (RB3.out.below t3)
          clear HQ3 RA3 RB3
          clear t3
          refine wpAnyH_ready (rs := [17]) (by kernel_rfl) (by simp) (AllReadyH.cons (o := { dst := some 39, op := Op.buildSlice 33 1 #[(0, Operand.tmp 38)], type := 33, pos := "law.go:83", after := #[{ on := 16, ground := Ground.data }, { on := 8, ground := Ground.guard }], guard := some (8, false) }) rfl (fun K hK => ?_) AllReadyH.nil)
          rw [if_pos (by rfl)]
          go_simp
          have t4 := below_alloc Z4 (.cells #[.int .i64 5, .int .u8 0, .int .u8 opt, .slice ua ul uc] 32)
          refine hK.out _ _ ((HQ4.out.below t4).cell) (fun hHeld => ?_)
          clear hK K
          try simp only [Act.put, List.setIfInBounds_toArray, List.set_cons_zero, List.set_cons_succ]
          have VA5 := Lib.hid (ev1_new Z4 5 0 opt _ B (HU.out.below HQ4.out.old))
          have HQ5 := Lib.hid (HQ4.out.below t4)
          have RA5 := Lib.hid (RA4.out.below t4)
          have RB5 := Lib.hid (RB4.out.below t4)
          have RC5 := Lib.hid (RC4.out.below t4)
          clear HQ4 RA4 RB4 RC4
          obtain ⟨Z5, hZ⟩ : ∃ Y, Y = Z4.alloc (.cells #[.int .i64 5, .int .u8 0, .int .u8 opt, .slice ua ul uc] 32) := ⟨_, rfl⟩
          obtain ⟨ga, hg⟩ : ∃ g, g = Z4.heap.size := ⟨_, rfl⟩
          rw [← hZ] at HQ5 RA5 RB5 RC5 VA5 hHeld ⊢
          rw [← hg] at VA5 ⊢
          clear t4 hZ hg
          refine wpAnyH_ready (rs := [18]) (by kernel_rfl) (by simp) (AllReadyH.cons (o := { dst := some 40, op := Op.call { callee := Callee.value (Operand.func 15), args := #[Operand.tmp 39], argTypes := #[33] }, type := 24, pos := "law.go:83", after := #[{ on := 17, ground := Ground.data }, { on := 12, ground := Ground.chain }, { on := 8, ground := Ground.guard }], guard := some (8, false) }) rfl (fun K hK => ?_) AllReadyH.nil)
          rw [if_pos (by rfl)]
          go_simp
          (go_at_call 15; refine (rwrite_any _ [⟨5, 0, opt, B⟩] _ VA5.out (by simp; exact HBL.out) (by rw [writeL_tell]; exact HTL.out) (by simp)).mono ?_; rw [writeL_tell]; rintro e Z6 ⟨pd, rfl, hp, t5⟩)
          go_wp2_with fail
          refine hK.out _ _ ((HQ5.out.below t5).cell) (fun hHeld => ?_)
          clear hK K
          try simp only [Act.put, List.setIfInBounds_toArray, List.set_cons_zero, List.set_cons_succ]
          have RD6 := Lib.hid (hp.row)
          have HQ6 := Lib.hid (HQ5.out.below t5)
          have RA6 := Lib.hid (RA5.out.below t5)
          have RB6 := Lib.hid (RB5.out.below t5)
          have RC6 := Lib.hid (RC5.out.below t5)
          have VA6 := Lib.hid (VA5.out.below t5)
          clear HQ5 RA5 RB5 RC5 VA5
          clear t5
          refine wpAnyH_ready (rs := [19]) (by kernel_rfl) (by simp) (AllReadyH.cons (o := { dst := some 41, op := Op.call { callee := Callee.value (Operand.func 11), args := #[Operand.tmp 34, Operand.tmp 40], argTypes := #[24, 24] }, type := 4, pos := "law.go:83", after := #[{ on := 12, ground := Ground.data }, { on := 18, ground := Ground.data }, { on := 18, ground := Ground.chain }, { on := 8, ground := Ground.guard }], guard := some (8, false) }) rfl (fun K hK => ?_) AllReadyH.nil)
          rw [if_pos (by rfl)]
          go_simp
          (go_at_call 11; refine (same_true _ _ (tellL opt B) _ RC6.out RD6.out (by have := HTL.out; unfold maxLen; omega)).mono ?_; rintro e Z7 ⟨rfl, nn, hz⟩)
          have t6 : Below Z6.heap.size Z6 Z7 := by rw [hz]; exact ⟨rfl, rfl, rfl, Nat.le_refl _, fun _ _ => rfl⟩
          clear hz
          go_wp2_with fail
          refine hK.out _ _ ((HQ6.out.below t6).cell) (fun hHeld => ?_)
          clear hK K
          try simp only [Act.put, List.setIfInBounds_toArray, List.set_cons_zero, List.set_cons_succ]
          have HQ7 := Lib.hid (HQ6.out.below t6)
          have RA7 := Lib.hid (RA6.out.below t6)
          have RB7 := Lib.hid (RB6.out.below t6)
          have RC7 := Lib.hid (RC6.out.below t6)
          have VA7 := Lib.hid (VA6.out.below t6)
          have RD7 := Lib.hid (RD6.out.below t6)
          clear HQ6 RA6 RB6 RC6 VA6 RD6
          clear t6
          refine wpAnyH_take (i := 20) (oi := { dst := some 42, op := Op.unOp UnOp.not 4 (Operand.tmp 41), type := 4, pos := "law.go:83", after := #[{ on := 19, ground := Ground.data }, { on := 8, ground := Ground.guard }], guard := some (8, false) }) (v := ?_) rfl (by kernel_rfl) (by kernel_rfl) (by kernel_rfl) (fun _ _ _ h => h) (Or.inl ⟨by rfl, ?_⟩) (by assumption) ?_
          rotate_left
          focus (intro w hSw; (try dsimp only at hSw); go_simp; try (with_reducible rfl))
          try simp only [Act.put, List.setIfInBounds_toArray, List.set_cons_zero, List.set_cons_succ]
          refine wpAnyH_take (i := 21) (oi := { dst := some 43, op := Op.pick (Operand.tmp 30) (Operand.const (Value.bool true)) (Operand.tmp 42), type := 4, pos := "law.go:83", after := #[{ on := 8, ground := Ground.data }, { on := 20, ground := Ground.data }], guard := none }) (v := ?_) rfl (by kernel_rfl) (by kernel_rfl) (by kernel_rfl) (fun _ _ _ h => h) (Or.inl ⟨by rfl, ?_⟩) (by assumption) ?_
          rotate_left
          focus (intro w hSw; (try dsimp only at hSw); go_simp; try (with_reducible rfl))
          try simp only [Act.put, List.setIfInBounds_toArray, List.set_cons_zero, List.set_cons_succ]
          refine wpAnyH_take (i := 22) (oi := { dst := some 44, op := Op.move (Operand.tmp 43), type := 4, pos := "law.go:83", after := #[{ on := 21, ground := Ground.data }, { on := 19, ground := Ground.chain }], guard := none }) (v := ?_) rfl (by kernel_rfl) (by kernel_rfl) (by kernel_rfl) (fun _ _ _ h => h) (Or.inl ⟨by rfl, ?_⟩) (by assumption) ?_
          rotate_left
          focus (intro w hSw; (try dsimp only at hSw); go_simp; try (with_reducible rfl))
          try simp only [Act.put, List.setIfInBounds_toArray, List.set_cons_zero, List.set_cons_succ]
          refine wpAnyH_take (i := 23) (oi := { dst := some 45, op := Op.fieldAddr 26 (Operand.tmp 6) 3, type := 0, pos := "law.go:83", after := #[{ on := 22, ground := Ground.guard }], guard := some (22, false) }) (v := ?_) rfl (by kernel_rfl) (by kernel_rfl) (by kernel_rfl) (fun _ _ _ h => h) (Or.inl ⟨by rfl, ?_⟩) (by assumption) ?_
          rotate_left
          focus (intro w hSw; (try dsimp only at hSw); go_simp; try (with_reducible rfl))
          try simp only [Act.put, List.setIfInBounds_toArray, List.set_cons_zero, List.set_cons_succ]
          refine wpAnyH_take (i := 24) (oi := { dst := some 46, op := Op.load 24 (Operand.tmp 45), type := 24, pos := "law.go:83", after := #[{ on := 23, ground := Ground.data }, { on := 22, ground := Ground.guard }], guard := some (22, false) }) (v := ?_) rfl (by kernel_rfl) (by kernel_rfl) (by kernel_rfl) (fun _ _ _ h => h) (Or.inl ⟨by rfl, ?_⟩) (by assumption) ?_
          rotate_left
          focus (intro w hSw; (try dsimp only at hSw); go_simp; try (with_reducible rfl))
          try simp only [Act.put, List.setIfInBounds_toArray, List.set_cons_zero, List.set_cons_succ]
          refine wpAnyH_take (i := 26) (oi := { dst := some 48, op := Op.fieldAddr 26 (Operand.tmp 6) 3, type := 0, pos := "law.go:83", after := #[{ on := 22, ground := Ground.guard }], guard := some (22, false) }) (v := ?_) rfl (by kernel_rfl) (by kernel_rfl) (by kernel_rfl) (fun _ _ _ h => h) (Or.inl ⟨by rfl, ?_⟩) (by assumption) ?_
          rotate_left
          focus (intro w hSw; (try dsimp only at hSw); go_simp; try (with_reducible rfl))
          try simp only [Act.put, List.setIfInBounds_toArray, List.set_cons_zero, List.set_cons_succ]
          refine wpAnyH_take (i := 27) (oi := { dst := some 49, op := Op.load 24 (Operand.tmp 48), type := 24, pos := "law.go:83", after := #[{ on := 26, ground := Ground.data }, { on := 22, ground := Ground.guard }], guard := some (22, false) }) (v := ?_) rfl (by kernel_rfl) (by kernel_rfl) (by kernel_rfl) (fun _ _ _ h => h) (Or.inl ⟨by rfl, ?_⟩) (by assumption) ?_
          rotate_left
          focus (intro w hSw; (try dsimp only at hSw); go_simp; try (with_reducible rfl))
          try simp only [Act.put, List.setIfInBounds_toArray, List.set_cons_zero, List.set_cons_succ]
          refine wpAnyH_take (i := 28) (oi := { dst := some 50, op := Op.build 32 #[(0, Operand.const (Value.int IntKind.i64 1)), (3, Operand.tmp 49)], type := 32, pos := "law.go:83", after := #[{ on := 27, ground := Ground.data }, { on := 22, ground := Ground.guard }], guard := some (22, false) }) (v := ?_) rfl (by kernel_rfl) (by kernel_rfl) (by kernel_rfl) (fun _ _ _ h => h) (Or.inl ⟨by rfl, ?_⟩) (by assumption) ?_
          rotate_left
          focus (intro w hSw; (try dsimp only at hSw); go_simp; try (with_reducible rfl))
          try simp only [Act.put, List.setIfInBounds_toArray, List.set_cons_zero, List.set_cons_succ]
          refine wpAnyH_take (i := 29) (oi := { dst := some 51, op := Op.build 32 #[(0, Operand.const (Value.int IntKind.i64 2))], type := 32, pos := "law.go:83", after := #[{ on := 22, ground := Ground.guard }], guard := some (22, false) }) (v := ?_) rfl (by kernel_rfl) (by kernel_rfl) (by kernel_rfl) (fun _ _ _ h => h) (Or.inl ⟨by rfl, ?_⟩) (by assumption) ?_
          rotate_left
          focus (intro w hSw; (try dsimp only at hSw); go_simp; try (with_reducible rfl))
          try simp only [Act.put, List.setIfInBounds_toArray, List.set_cons_zero, List.set_cons_succ]
          refine wpAnyH_ready (rs := [25, 30]) (by kernel_rfl) (by simp) (AllReadyH.cons (o := { dst := some 47, op := Op.call { callee := Callee.value (Operand.func 16), args := #[Operand.tmp 46], argTypes := #[24] }, type := 24, pos := "law.go:83", after := #[{ on := 24, ground := Ground.data }, { on := 22, ground := Ground.chain }, { on := 22, ground := Ground.guard }], guard := some (22, false) }) rfl (fun K hK => ?_) (AllReadyH.cons (o := { dst := some 52, op := Op.buildSlice 33 2 #[(0, Operand.tmp 50), (1, Operand.tmp 51)], type := 33, pos := "law.go:83", after := #[{ on := 28, ground := Ground.data }, { on := 29, ground := Ground.data }, { on := 22, ground := Ground.guard }], guard := some (22, false) }) rfl (fun K hK => ?_) AllReadyH.nil))
          · rw [if_pos (by rfl)]
            go_simp
            (go_at_call 16; refine (record_any _ B _ (HU.out.below HQ7.out.old) HBL.out).mono ?_; rintro e Z8 ⟨pe, rfl, hp, t7⟩)
            go_wp2_with fail
            refine hK.out _ _ ((HQ7.out.below t7).cell) (fun hHeld => ?_)
            clear hK K
            try simp only [Act.put, List.setIfInBounds_toArray, List.set_cons_zero, List.set_cons_succ]
            have RE8 := Lib.hid (hp.row)
            have HQ8 := Lib.hid (HQ7.out.below t7)
            have RA8 := Lib.hid (RA7.out.below t7)
            have RB8 := Lib.hid (RB7.out.below t7)
            have RC8 := Lib.hid (RC7.out.below t7)
            have VA8 := Lib.hid (VA7.out.below t7)
            have RD8 := Lib.hid (RD7.out.below t7)
            clear HQ7 RA7 RB7 RC7 VA7 RD7
            clear t7
            refine wpAnyH_ready (rs := [30]) (by kernel_rfl) (by simp) (AllReadyH.cons (o := { dst := some 52, op := Op.buildSlice 33 2 #[(0, Operand.tmp 50), (1, Operand.tmp 51)], type := 33, pos := "law.go:83", after := #[{ on := 28, ground := Ground.data }, { on := 29, ground := Ground.data }, { on := 22, ground := Ground.guard }], guard := some (22, false) }) rfl (fun K hK => ?_) AllReadyH.nil)
            rw [if_pos (by rfl)]
            go_simp
            have t8 := below_alloc Z8 (.cells #[.int .i64 1, .int .u8 0, .int .u8 0, .slice ua ul uc, .int .i64 2, .int .u8 0, .int .u8 0, .slice none 0 0] 32)
            refine hK.out _ _ ((HQ8.out.below t8).cell) (fun hHeld => ?_)
            clear hK K
            try simp only [Act.put, List.setIfInBounds_toArray, List.set_cons_zero, List.set_cons_succ]
            have VB9 := Lib.hid (ev2_new Z8 _ B (HU.out.below HQ8.out.old))
            have HQ9 := Lib.hid (HQ8.out.below t8)
            have RA9 := Lib.hid (RA8.out.below t8)
            have RB9 := Lib.hid (RB8.out.below t8)
            have RC9 := Lib.hid (RC8.out.below t8)
            have VA9 := Lib.hid (VA8.out.below t8)
            have RD9 := Lib.hid (RD8.out.below t8)
            have RE9 := Lib.hid (RE8.out.below t8)
            clear HQ8 RA8 RB8 RC8 VA8 RD8 RE8
            obtain ⟨Z9, hZ⟩ : ∃ Y, Y = Z8.alloc (.cells #[.int .i64 1, .int .u8 0, .int .u8 0, .slice ua ul uc, .int .i64 2, .int .u8 0, .int .u8 0, .slice none 0 0] 32) := ⟨_, rfl⟩
            obtain ⟨gb, hg⟩ : ∃ g, g = Z8.heap.size := ⟨_, rfl⟩
            rw [← hZ] at HQ9 RA9 RB9 RC9 VA9 RD9 RE9 VB9 hHeld ⊢
            rw [← hg] at VB9 ⊢
            clear t8 hZ hg
            refine wpAnyH_ready (rs := [31]) (by kernel_rfl) (by simp) (AllReadyH.cons (o := { dst := some 53, op := Op.call { callee := Callee.value (Operand.func 15), args := #[Operand.tmp 52], argTypes := #[33] }, type := 24, pos := "law.go:83", after := #[{ on := 30, ground := Ground.data }, { on := 25, ground := Ground.chain }, { on := 22, ground := Ground.guard }], guard := some (22, false) }) rfl (fun K hK => ?_) AllReadyH.nil)
            rw [if_pos (by rfl)]
            go_simp
            (go_at_call 15; refine (rwrite_any _ [⟨1, 0, 0, B⟩, ⟨2, 0, 0, []⟩] _ VB9.out (by simp; exact HBL.out) (by rw [writeL_rec]; exact HRL.out) (by simp)).mono ?_; rw [writeL_rec]; rintro e Z10 ⟨pf, rfl, hp, t9⟩)
            go_wp2_with fail
            refine hK.out _ _ ((HQ9.out.below t9).cell) (fun hHeld => ?_)
            clear hK K
            try simp only [Act.put, List.setIfInBounds_toArray, List.set_cons_zero, List.set_cons_succ]
            have RF10 := Lib.hid (hp.row)
            have HQ10 := Lib.hid (HQ9.out.below t9)
            have RA10 := Lib.hid (RA9.out.below t9)
            have RB10 := Lib.hid (RB9.out.below t9)
            have RC10 := Lib.hid (RC9.out.below t9)
            have VA10 := Lib.hid (VA9.out.below t9)
            have RD10 := Lib.hid (RD9.out.below t9)
            have RE10 := Lib.hid (RE9.out.below t9)
            have VB10 := Lib.hid (VB9.out.below t9)
            clear HQ9 RA9 RB9 RC9 VA9 RD9 RE9 VB9
            clear t9
            refine wpAnyH_ready (rs := [32]) (by kernel_rfl) (by simp) (AllReadyH.cons (o := { dst := some 54, op := Op.call { callee := Callee.value (Operand.func 11), args := #[Operand.tmp 47, Operand.tmp 53], argTypes := #[24, 24] }, type := 4, pos := "law.go:83", after := #[{ on := 25, ground := Ground.data }, { on := 31, ground := Ground.data }, { on := 31, ground := Ground.chain }, { on := 22, ground := Ground.guard }], guard := some (22, false) }) rfl (fun K hK => ?_) AllReadyH.nil)
            rw [if_pos (by rfl)]
            go_simp
            (go_at_call 11; refine (same_true _ _ (escL B ++ [255, 239]) _ RE10.out RF10.out (by have := HRL.out; unfold maxLen; omega)).mono ?_; rintro e Z11 ⟨rfl, nn, hz⟩)
            have t10 : Below Z10.heap.size Z10 Z11 := by rw [hz]; exact ⟨rfl, rfl, rfl, Nat.le_refl _, fun _ _ => rfl⟩
            clear hz
            go_wp2_with fail
            refine hK.out _ _ ((HQ10.out.below t10).cell) (fun hHeld => ?_)
            clear hK K
            try simp only [Act.put, List.setIfInBounds_toArray, List.set_cons_zero, List.set_cons_succ]
            have HQ11 := Lib.hid (HQ10.out.below t10)
            have RA11 := Lib.hid (RA10.out.below t10)
            have RB11 := Lib.hid (RB10.out.below t10)
            have RC11 := Lib.hid (RC10.out.below t10)
            have VA11 := Lib.hid (VA10.out.below t10)
            have RD11 := Lib.hid (RD10.out.below t10)
            have RE11 := Lib.hid (RE10.out.below t10)
            have VB11 := Lib.hid (VB10.out.below t10)
            have RF11 := Lib.hid (RF10.out.below t10)
            clear HQ10 RA10 RB10 RC10 VA10 RD10 RE10 VB10 RF10
            clear t10
            refine wpAnyH_take (i := 33) (oi := { dst := some 55, op := Op.unOp UnOp.not 4 (Operand.tmp 54), type := 4, pos := "law.go:83", after := #[{ on := 32, ground := Ground.data }, { on := 22, ground := Ground.guard }], guard := some (22, false) }) (v := ?_) rfl (by kernel_rfl) (by kernel_rfl) (by kernel_rfl) (fun _ _ _ h => h) (Or.inl ⟨by rfl, ?_⟩) (by assumption) ?_
            rotate_left
            focus (intro w hSw; (try dsimp only at hSw); go_simp; try (with_reducible rfl))
            try simp only [Act.put, List.setIfInBounds_toArray, List.set_cons_zero, List.set_cons_succ]
            refine wpAnyH_take (i := 34) (oi := { dst := some 56, op := Op.pick (Operand.tmp 44) (Operand.const (Value.bool true)) (Operand.tmp 55), type := 4, pos := "law.go:83", after := #[{ on := 22, ground := Ground.data }, { on := 33, ground := Ground.data }], guard := none }) (v := ?_) rfl (by kernel_rfl) (by kernel_rfl) (by kernel_rfl) (fun _ _ _ h => h) (Or.inl ⟨by rfl, ?_⟩) (by assumption) ?_
            rotate_left
            focus (intro w hSw; (try dsimp only at hSw); go_simp; try (with_reducible rfl))
            try simp only [Act.put, List.setIfInBounds_toArray, List.set_cons_zero, List.set_cons_succ]
            refine wpAnyH_done (by kernel_rfl) ?_ _
            have HBX := Lib.hid HQ11.out.old
            go_wp2_with fail
            go_roundw
            case rel => exact ⟨k + 1, by omega, by go_num, HNX, HBX⟩
            case measure => simp [intOf]; omega
          · rw [if_pos (by rfl)]
            go_simp
            have t7 := below_alloc Z7 (.cells #[.int .i64 1, .int .u8 0, .int .u8 0, .slice ua ul uc, .int .i64 2, .int .u8 0, .int .u8 0, .slice none 0 0] 32)
            refine hK.out _ _ ((HQ7.out.below t7).cell) (fun hHeld => ?_)
            clear hK K
            try simp only [Act.put, List.setIfInBounds_toArray, List.set_cons_zero, List.set_cons_succ]
            have VB8 := Lib.hid (ev2_new Z7 _ B (HU.out.below HQ7.out.old))
            have HQ8 := Lib.hid (HQ7.out.below t7)
            have RA8 := Lib.hid (RA7.out.below t7)
            have RB8 := Lib.hid (RB7.out.below t7)
            have RC8 := Lib.hid (RC7.out.below t7)
            have VA8 := Lib.hid (VA7.out.below t7)
            have RD8 := Lib.hid (RD7.out.below t7)
            clear HQ7 RA7 RB7 RC7 VA7 RD7
            obtain ⟨Z8, hZ⟩ : ∃ Y, Y = Z7.alloc (.cells #[.int .i64 1, .int .u8 0, .int .u8 0, .slice ua ul uc, .int .i64 2, .int .u8 0, .int .u8 0, .slice none 0 0] 32) := ⟨_, rfl⟩
            obtain ⟨gb, hg⟩ : ∃ g, g = Z7.heap.size := ⟨_, rfl⟩
            rw [← hZ] at HQ8 RA8 RB8 RC8 VA8 RD8 VB8 hHeld ⊢
            rw [← hg] at VB8 ⊢
            clear t7 hZ hg
            refine wpAnyH_ready (rs := [25]) (by kernel_rfl) (by simp) (AllReadyH.cons (o := { dst := some 47, op := Op.call { callee := Callee.value (Operand.func 16), args := #[Operand.tmp 46], argTypes := #[24] }, type := 24, pos := "law.go:83", after := #[{ on := 24, ground := Ground.data }, { on := 22, ground := Ground.chain }, { on := 22, ground := Ground.guard }], guard := some (22, false) }) rfl (fun K hK => ?_) AllReadyH.nil)
            rw [if_pos (by rfl)]
            go_simp
            (go_at_call 16; refine (record_any _ B _ (HU.out.below HQ8.out.old) HBL.out).mono ?_; rintro e Z9 ⟨pe, rfl, hp, t8⟩)
            go_wp2_with fail
            refine hK.out _ _ ((HQ8.out.below t8).cell) (fun hHeld => ?_)
            clear hK K
            try simp only [Act.put, List.setIfInBounds_toArray, List.set_cons_zero, List.set_cons_succ]
            have RE9 := Lib.hid (hp.row)
            have HQ9 := Lib.hid (HQ8.out.below t8)
            have RA9 := Lib.hid (RA8.out.below t8)
            have RB9 := Lib.hid (RB8.out.below t8)
            have RC9 := Lib.hid (RC8.out.below t8)
            have VA9 := Lib.hid (VA8.out.below t8)
            have RD9 := Lib.hid (RD8.out.below t8)
            have VB9 := Lib.hid (VB8.out.below t8)
            clear HQ8 RA8 RB8 RC8 VA8 RD8 VB8
            clear t8
            refine wpAnyH_ready (rs := [31]) (by kernel_rfl) (by simp) (AllReadyH.cons (o := { dst := some 53, op := Op.call { callee := Callee.value (Operand.func 15), args := #[Operand.tmp 52], argTypes := #[33] }, type := 24, pos := "law.go:83", after := #[{ on := 30, ground := Ground.data }, { on := 25, ground := Ground.chain }, { on := 22, ground := Ground.guard }], guard := some (22, false) }) rfl (fun K hK => ?_) AllReadyH.nil)
            rw [if_pos (by rfl)]
            go_simp
            (go_at_call 15; refine (rwrite_any _ [⟨1, 0, 0, B⟩, ⟨2, 0, 0, []⟩] _ VB9.out (by simp; exact HBL.out) (by rw [writeL_rec]; exact HRL.out) (by simp)).mono ?_; rw [writeL_rec]; rintro e Z10 ⟨pf, rfl, hp, t9⟩)
            go_wp2_with fail
            refine hK.out _ _ ((HQ9.out.below t9).cell) (fun hHeld => ?_)
            clear hK K
            try simp only [Act.put, List.setIfInBounds_toArray, List.set_cons_zero, List.set_cons_succ]
            have RF10 := Lib.hid (hp.row)
            have HQ10 := Lib.hid (HQ9.out.below t9)
            have RA10 := Lib.hid (RA9.out.below t9)
            have RB10 := Lib.hid (RB9.out.below t9)
            have RC10 := Lib.hid (RC9.out.below t9)
            have VA10 := Lib.hid (VA9.out.below t9)
            have RD10 := Lib.hid (RD9.out.below t9)
            have VB10 := Lib.hid (VB9.out.below t9)
            have RE10 := Lib.hid (RE9.out.below t9)
            clear HQ9 RA9 RB9 RC9 VA9 RD9 VB9 RE9
            clear t9
            refine wpAnyH_ready (rs := [32]) (by kernel_rfl) (by simp) (AllReadyH.cons (o := { dst := some 54, op := Op.call { callee := Callee.value (Operand.func 11), args := #[Operand.tmp 47, Operand.tmp 53], argTypes := #[24, 24] }, type := 4, pos := "law.go:83", after := #[{ on := 25, ground := Ground.data }, { on := 31, ground := Ground.data }, { on := 31, ground := Ground.chain }, { on := 22, ground := Ground.guard }], guard := some (22, false) }) rfl (fun K hK => ?_) AllReadyH.nil)
            rw [if_pos (by rfl)]
            go_simp
            (go_at_call 11; refine (same_true _ _ (escL B ++ [255, 239]) _ RE10.out RF10.out (by have := HRL.out; unfold maxLen; omega)).mono ?_; rintro e Z11 ⟨rfl, nn, hz⟩)
            have t10 : Below Z10.heap.size Z10 Z11 := by rw [hz]; exact ⟨rfl, rfl, rfl, Nat.le_refl _, fun _ _ => rfl⟩
            clear hz
            go_wp2_with fail
            refine hK.out _ _ ((HQ10.out.below t10).cell) (fun hHeld => ?_)
            clear hK K
            try simp only [Act.put, List.setIfInBounds_toArray, List.set_cons_zero, List.set_cons_succ]
            have HQ11 := Lib.hid (HQ10.out.below t10)
            have RA11 := Lib.hid (RA10.out.below t10)
            have RB11 := Lib.hid (RB10.out.below t10)
            have RC11 := Lib.hid (RC10.out.below t10)
            have VA11 := Lib.hid (VA10.out.below t10)
            have RD11 := Lib.hid (RD10.out.below t10)
            have VB11 := Lib.hid (VB10.out.below t10)
            have RE11 := Lib.hid (RE10.out.below t10)
            have RF11 := Lib.hid (RF10.out.below t10)
            clear HQ10 RA10 RB10 RC10 VA10 RD10 VB10 RE10 RF10
            clear t10
            refine wpAnyH_take (i := 33) (oi := { dst := some 55, op := Op.unOp UnOp.not 4 (Operand.tmp 54), type := 4, pos := "law.go:83", after := #[{ on := 32, ground := Ground.data }, { on := 22, ground := Ground.guard }], guard := some (22, false) }) (v := ?_) rfl (by kernel_rfl) (by kernel_rfl) (by kernel_rfl) (fun _ _ _ h => h) (Or.inl ⟨by rfl, ?_⟩) (by assumption) ?_
            rotate_left
            focus (intro w hSw; (try dsimp only at hSw); go_simp; try (with_reducible rfl))
            try simp only [Act.put, List.setIfInBounds_toArray, List.set_cons_zero, List.set_cons_succ]
            refine wpAnyH_take (i := 34) (oi := { dst := some 56, op := Op.pick (Operand.tmp 44) (Operand.const (Value.bool true)) (Operand.tmp 55), type := 4, pos := "law.go:83", after := #[{ on := 22, ground := Ground.data }, { on := 33, ground := Ground.data }], guard := none }) (v := ?_) rfl (by kernel_rfl) (by kernel_rfl) (by kernel_rfl) (fun _ _ _ h => h) (Or.inl ⟨by rfl, ?_⟩) (by assumption) ?_
            rotate_left
            focus (intro w hSw; (try dsimp only at hSw); go_simp; try (with_reducible rfl))
            try simp only [Act.put, List.setIfInBounds_toArray, List.set_cons_zero, List.set_cons_succ]
            refine wpAnyH_done (by kernel_rfl) ?_ _
            have HBX := Lib.hid HQ11.out.old
            go_wp2_with fail
            go_roundw
            case rel => exact ⟨k + 1, by omega, by go_num, HNX, HBX⟩
            case measure => simp [intOf]; omega
        · rw [if_pos (by rfl)]
          go_simp
          have t3 := below_alloc Z3 (.cells #[.int .i64 5, .int .u8 0, .int .u8 opt, .slice ua ul uc] 32)
          refine hK.out _ _ ((HQ3.out.below t3).cell) (fun hHeld => ?_)
          clear hK K
          try simp only [Act.put, List.setIfInBounds_toArray, List.set_cons_zero, List.set_cons_succ]
          have VA4 := Lib.hid (ev1_new Z3 5 0 opt _ B (HU.out.below HQ3.out.old))
          have HQ4 := Lib.hid (HQ3.out.below t3)
          have RA4 := Lib.hid (RA3.out.below t3)
          have RB4 := Lib.hid (RB3.out.below t3)
          clear HQ3 RA3 RB3
          obtain ⟨Z4, hZ⟩ : ∃ Y, Y = Z3.alloc (.cells #[.int .i64 5, .int .u8 0, .int .u8 opt, .slice ua ul uc] 32) := ⟨_, rfl⟩
          obtain ⟨ga, hg⟩ : ∃ g, g = Z3.heap.size := ⟨_, rfl⟩
          rw [← hZ] at HQ4 RA4 RB4 VA4 hHeld ⊢
          rw [← hg] at VA4 ⊢
          clear t3 hZ hg
          refine wpAnyH_ready (rs := [12]) (by kernel_rfl) (by simp) (AllReadyH.cons (o := { dst := some 34, op := Op.call { callee := Callee.value (Operand.func 14), args := #[Operand.tmp 31, Operand.tmp 33], argTypes := #[5, 24] }, type := 24, pos := "law.go:83", after := #[{ on := 9, ground := Ground.data }, { on := 11, ground := Ground.data }, { on := 8, ground := Ground.chain }, { on := 8, ground := Ground.guard }], guard := some (8, false) }) rfl (fun K hK => ?_) AllReadyH.nil)
          rw [if_pos (by rfl)]
          go_simp
          (go_at_call 14; refine (tell_any opt _ B _ (HU.out.below HQ4.out.old) HBL.out).mono ?_; rintro e Z5 ⟨pc, rfl, hp, t4⟩)
          go_wp2_with fail
          refine hK.out _ _ ((HQ4.out.below t4).cell) (fun hHeld => ?_)
          clear hK K
          try simp only [Act.put, List.setIfInBounds_toArray, List.set_cons_zero, List.set_cons_succ]
          have RC5 := Lib.hid (hp.row)
          have HQ5 := Lib.hid (HQ4.out.below t4)
          have RA5 := Lib.hid (RA4.out.below t4)
          have RB5 := Lib.hid (RB4.out.below t4)
          have VA5 := Lib.hid (VA4.out.below t4)
          clear HQ4 RA4 RB4 VA4
          clear t4
          refine wpAnyH_ready (rs := [18]) (by kernel_rfl) (by simp) (AllReadyH.cons (o := { dst := some 40, op := Op.call { callee := Callee.value (Operand.func 15), args := #[Operand.tmp 39], argTypes := #[33] }, type := 24, pos := "law.go:83", after := #[{ on := 17, ground := Ground.data }, { on := 12, ground := Ground.chain }, { on := 8, ground := Ground.guard }], guard := some (8, false) }) rfl (fun K hK => ?_) AllReadyH.nil)
          rw [if_pos (by rfl)]
          go_simp
          (go_at_call 15; refine (rwrite_any _ [⟨5, 0, opt, B⟩] _ VA5.out (by simp; exact HBL.out) (by rw [writeL_tell]; exact HTL.out) (by simp)).mono ?_; rw [writeL_tell]; rintro e Z6 ⟨pd, rfl, hp, t5⟩)
          go_wp2_with fail
          refine hK.out _ _ ((HQ5.out.below t5).cell) (fun hHeld => ?_)
          clear hK K
          try simp only [Act.put, List.setIfInBounds_toArray, List.set_cons_zero, List.set_cons_succ]
          have RD6 := Lib.hid (hp.row)
          have HQ6 := Lib.hid (HQ5.out.below t5)
          have RA6 := Lib.hid (RA5.out.below t5)
          have RB6 := Lib.hid (RB5.out.below t5)
          have VA6 := Lib.hid (VA5.out.below t5)
          have RC6 := Lib.hid (RC5.out.below t5)
          clear HQ5 RA5 RB5 VA5 RC5
          clear t5
          refine wpAnyH_ready (rs := [19]) (by kernel_rfl) (by simp) (AllReadyH.cons (o := { dst := some 41, op := Op.call { callee := Callee.value (Operand.func 11), args := #[Operand.tmp 34, Operand.tmp 40], argTypes := #[24, 24] }, type := 4, pos := "law.go:83", after := #[{ on := 12, ground := Ground.data }, { on := 18, ground := Ground.data }, { on := 18, ground := Ground.chain }, { on := 8, ground := Ground.guard }], guard := some (8, false) }) rfl (fun K hK => ?_) AllReadyH.nil)
          rw [if_pos (by rfl)]
          go_simp
          (go_at_call 11; refine (same_true _ _ (tellL opt B) _ RC6.out RD6.out (by have := HTL.out; unfold maxLen; omega)).mono ?_; rintro e Z7 ⟨rfl, nn, hz⟩)
          have t6 : Below Z6.heap.size Z6 Z7 := by rw [hz]; exact ⟨rfl, rfl, rfl, Nat.le_refl _, fun _ _ => rfl⟩
          clear hz
          go_wp2_with fail
          refine hK.out _ _ ((HQ6.out.below t6).cell) (fun hHeld => ?_)
          clear hK K
          try simp only [Act.put, List.setIfInBounds_toArray, List.set_cons_zero, List.set_cons_succ]
          have HQ7 := Lib.hid (HQ6.out.below t6)
          have RA7 := Lib.hid (RA6.out.below t6)
          have RB7 := Lib.hid (RB6.out.below t6)
          have VA7 := Lib.hid (VA6.out.below t6)
          have RC7 := Lib.hid (RC6.out.below t6)
          have RD7 := Lib.hid (RD6.out.below t6)
          clear HQ6 RA6 RB6 VA6 RC6 RD6
          clear t6
          refine wpAnyH_take (i := 20) (oi := { dst := some 42, op := Op.unOp UnOp.not 4 (Operand.tmp 41), type := 4, pos := "law.go:83", after := #[{ on := 19, ground := Ground.data }, { on := 8, ground := Ground.guard }], guard := some (8, false) }) (v := ?_) rfl (by kernel_rfl) (by kernel_rfl) (by kernel_rfl) (fun _ _ _ h => h) (Or.inl ⟨by rfl, ?_⟩) (by assumption) ?_
          rotate_left
          focus (intro w hSw; (try dsimp only at hSw); go_simp; try (with_reducible rfl))
          try simp only [Act.put, List.setIfInBounds_toArray, List.set_cons_zero, List.set_cons_succ]
          refine wpAnyH_take (i := 21) (oi := { dst := some 43, op := Op.pick (Operand.tmp 30) (Operand.const (Value.bool true)) (Operand.tmp 42), type := 4, pos := "law.go:83", after := #[{ on := 8, ground := Ground.data }, { on := 20, ground := Ground.data }], guard := none }) (v := ?_) rfl (by kernel_rfl) (by kernel_rfl) (by kernel_rfl) (fun _ _ _ h => h) (Or.inl ⟨by rfl, ?_⟩) (by assumption) ?_
          rotate_left
          focus (intro w hSw; (try dsimp only at hSw); go_simp; try (with_reducible rfl))
          try simp only [Act.put, List.setIfInBounds_toArray, List.set_cons_zero, List.set_cons_succ]
          refine wpAnyH_take (i := 22) (oi := { dst := some 44, op := Op.move (Operand.tmp 43), type := 4, pos := "law.go:83", after := #[{ on := 21, ground := Ground.data }, { on := 19, ground := Ground.chain }], guard := none }) (v := ?_) rfl (by kernel_rfl) (by kernel_rfl) (by kernel_rfl) (fun _ _ _ h => h) (Or.inl ⟨by rfl, ?_⟩) (by assumption) ?_
          rotate_left
          focus (intro w hSw; (try dsimp only at hSw); go_simp; try (with_reducible rfl))
          try simp only [Act.put, List.setIfInBounds_toArray, List.set_cons_zero, List.set_cons_succ]
          refine wpAnyH_take (i := 23) (oi := { dst := some 45, op := Op.fieldAddr 26 (Operand.tmp 6) 3, type := 0, pos := "law.go:83", after := #[{ on := 22, ground := Ground.guard }], guard := some (22, false) }) (v := ?_) rfl (by kernel_rfl) (by kernel_rfl) (by kernel_rfl) (fun _ _ _ h => h) (Or.inl ⟨by rfl, ?_⟩) (by assumption) ?_
          rotate_left
          focus (intro w hSw; (try dsimp only at hSw); go_simp; try (with_reducible rfl))
          try simp only [Act.put, List.setIfInBounds_toArray, List.set_cons_zero, List.set_cons_succ]
          refine wpAnyH_take (i := 24) (oi := { dst := some 46, op := Op.load 24 (Operand.tmp 45), type := 24, pos := "law.go:83", after := #[{ on := 23, ground := Ground.data }, { on := 22, ground := Ground.guard }], guard := some (22, false) }) (v := ?_) rfl (by kernel_rfl) (by kernel_rfl) (by kernel_rfl) (fun _ _ _ h => h) (Or.inl ⟨by rfl, ?_⟩) (by assumption) ?_
          rotate_left
          focus (intro w hSw; (try dsimp only at hSw); go_simp; try (with_reducible rfl))
          try simp only [Act.put, List.setIfInBounds_toArray, List.set_cons_zero, List.set_cons_succ]
          refine wpAnyH_take (i := 26) (oi := { dst := some 48, op := Op.fieldAddr 26 (Operand.tmp 6) 3, type := 0, pos := "law.go:83", after := #[{ on := 22, ground := Ground.guard }], guard := some (22, false) }) (v := ?_) rfl (by kernel_rfl) (by kernel_rfl) (by kernel_rfl) (fun _ _ _ h => h) (Or.inl ⟨by rfl, ?_⟩) (by assumption) ?_
          rotate_left
          focus (intro w hSw; (try dsimp only at hSw); go_simp; try (with_reducible rfl))
          try simp only [Act.put, List.setIfInBounds_toArray, List.set_cons_zero, List.set_cons_succ]
          refine wpAnyH_take (i := 27) (oi := { dst := some 49, op := Op.load 24 (Operand.tmp 48), type := 24, pos := "law.go:83", after := #[{ on := 26, ground := Ground.data }, { on := 22, ground := Ground.guard }], guard := some (22, false) }) (v := ?_) rfl (by kernel_rfl) (by kernel_rfl) (by kernel_rfl) (fun _ _ _ h => h) (Or.inl ⟨by rfl, ?_⟩) (by assumption) ?_
          rotate_left
          focus (intro w hSw; (try dsimp only at hSw); go_simp; try (with_reducible rfl))
          try simp only [Act.put, List.setIfInBounds_toArray, List.set_cons_zero, List.set_cons_succ]
          refine wpAnyH_take (i := 28) (oi := { dst := some 50, op := Op.build 32 #[(0, Operand.const (Value.int IntKind.i64 1)), (3, Operand.tmp 49)], type := 32, pos := "law.go:83", after := #[{ on := 27, ground := Ground.data }, { on := 22, ground := Ground.guard }], guard := some (22, false) }) (v := ?_) rfl (by kernel_rfl) (by kernel_rfl) (by kernel_rfl) (fun _ _ _ h => h) (Or.inl ⟨by rfl, ?_⟩) (by assumption) ?_
          rotate_left
          focus (intro w hSw; (try dsimp only at hSw); go_simp; try (with_reducible rfl))
          try simp only [Act.put, List.setIfInBounds_toArray, List.set_cons_zero, List.set_cons_succ]
          refine wpAnyH_take (i := 29) (oi := { dst := some 51, op := Op.build 32 #[(0, Operand.const (Value.int IntKind.i64 2))], type := 32, pos := "law.go:83", after := #[{ on := 22, ground := Ground.guard }], guard := some (22, false) }) (v := ?_) rfl (by kernel_rfl) (by kernel_rfl) (by kernel_rfl) (fun _ _ _ h => h) (Or.inl ⟨by rfl, ?_⟩) (by assumption) ?_
          rotate_left
          focus (intro w hSw; (try dsimp only at hSw); go_simp; try (with_reducible rfl))
          try simp only [Act.put, List.setIfInBounds_toArray, List.set_cons_zero, List.set_cons_succ]
          refine wpAnyH_ready (rs := [25, 30]) (by kernel_rfl) (by simp) (AllReadyH.cons (o := { dst := some 47, op := Op.call { callee := Callee.value (Operand.func 16), args := #[Operand.tmp 46], argTypes := #[24] }, type := 24, pos := "law.go:83", after := #[{ on := 24, ground := Ground.data }, { on := 22, ground := Ground.chain }, { on := 22, ground := Ground.guard }], guard := some (22, false) }) rfl (fun K hK => ?_) (AllReadyH.cons (o := { dst := some 52, op := Op.buildSlice 33 2 #[(0, Operand.tmp 50), (1, Operand.tmp 51)], type := 33, pos := "law.go:83", after := #[{ on := 28, ground := Ground.data }, { on := 29, ground := Ground.data }, { on := 22, ground := Ground.guard }], guard := some (22, false) }) rfl (fun K hK => ?_) AllReadyH.nil))
          · rw [if_pos (by rfl)]
            go_simp
            (go_at_call 16; refine (record_any _ B _ (HU.out.below HQ7.out.old) HBL.out).mono ?_; rintro e Z8 ⟨pe, rfl, hp, t7⟩)
            go_wp2_with fail
            refine hK.out _ _ ((HQ7.out.below t7).cell) (fun hHeld => ?_)
            clear hK K
            try simp only [Act.put, List.setIfInBounds_toArray, List.set_cons_zero, List.set_cons_succ]
            have RE8 := Lib.hid (hp.row)
            have HQ8 := Lib.hid (HQ7.out.below t7)
            have RA8 := Lib.hid (RA7.out.below t7)
            have RB8 := Lib.hid (RB7.out.below t7)
            have VA8 := Lib.hid (VA7.out.below t7)
            have RC8 := Lib.hid (RC7.out.below t7)
            have RD8 := Lib.hid (RD7.out.below t7)
            clear HQ7 RA7 RB7 VA7 RC7 RD7
            clear t7
            refine wpAnyH_ready (rs := [30]) (by kernel_rfl) (by simp) (AllReadyH.cons (o := { dst := some 52, op := Op.buildSlice 33 2 #[(0, Operand.tmp 50), (1, Operand.tmp 51)], type := 33, pos := "law.go:83", after := #[{ on := 28, ground := Ground.data }, { on := 29, ground := Ground.data }, { on := 22, ground := Ground.guard }], guard := some (22, false) }) rfl (fun K hK => ?_) AllReadyH.nil)
            rw [if_pos (by rfl)]
            go_simp
            have t8 := below_alloc Z8 (.cells #[.int .i64 1, .int .u8 0, .int .u8 0, .slice ua ul uc, .int .i64 2, .int .u8 0, .int .u8 0, .slice none 0 0] 32)
            refine hK.out _ _ ((HQ8.out.below t8).cell) (fun hHeld => ?_)
            clear hK K
            try simp only [Act.put, List.setIfInBounds_toArray, List.set_cons_zero, List.set_cons_succ]
            have VB9 := Lib.hid (ev2_new Z8 _ B (HU.out.below HQ8.out.old))
            have HQ9 := Lib.hid (HQ8.out.below t8)
            have RA9 := Lib.hid (RA8.out.below t8)
            have RB9 := Lib.hid (RB8.out.below t8)
            have VA9 := Lib.hid (VA8.out.below t8)
            have RC9 := Lib.hid (RC8.out.below t8)
            have RD9 := Lib.hid (RD8.out.below t8)
            have RE9 := Lib.hid (RE8.out.below t8)
            clear HQ8 RA8 RB8 VA8 RC8 RD8 RE8
            obtain ⟨Z9, hZ⟩ : ∃ Y, Y = Z8.alloc (.cells #[.int .i64 1, .int .u8 0, .int .u8 0, .slice ua ul uc, .int .i64 2, .int .u8 0, .int .u8 0, .slice none 0 0] 32) := ⟨_, rfl⟩
            obtain ⟨gb, hg⟩ : ∃ g, g = Z8.heap.size := ⟨_, rfl⟩
            rw [← hZ] at HQ9 RA9 RB9 VA9 RC9 RD9 RE9 VB9 hHeld ⊢
            rw [← hg] at VB9 ⊢
            clear t8 hZ hg
            refine wpAnyH_ready (rs := [31]) (by kernel_rfl) (by simp) (AllReadyH.cons (o := { dst := some 53, op := Op.call { callee := Callee.value (Operand.func 15), args := #[Operand.tmp 52], argTypes := #[33] }, type := 24, pos := "law.go:83", after := #[{ on := 30, ground := Ground.data }, { on := 25, ground := Ground.chain }, { on := 22, ground := Ground.guard }], guard := some (22, false) }) rfl (fun K hK => ?_) AllReadyH.nil)
            rw [if_pos (by rfl)]
            go_simp
            (go_at_call 15; refine (rwrite_any _ [⟨1, 0, 0, B⟩, ⟨2, 0, 0, []⟩] _ VB9.out (by simp; exact HBL.out) (by rw [writeL_rec]; exact HRL.out) (by simp)).mono ?_; rw [writeL_rec]; rintro e Z10 ⟨pf, rfl, hp, t9⟩)
            go_wp2_with fail
            refine hK.out _ _ ((HQ9.out.below t9).cell) (fun hHeld => ?_)
            clear hK K
            try simp only [Act.put, List.setIfInBounds_toArray, List.set_cons_zero, List.set_cons_succ]
            have RF10 := Lib.hid (hp.row)
            have HQ10 := Lib.hid (HQ9.out.below t9)
            have RA10 := Lib.hid (RA9.out.below t9)
            have RB10 := Lib.hid (RB9.out.below t9)
            have VA10 := Lib.hid (VA9.out.below t9)
            have RC10 := Lib.hid (RC9.out.below t9)
            have RD10 := Lib.hid (RD9.out.below t9)
            have RE10 := Lib.hid (RE9.out.below t9)
            have VB10 := Lib.hid (VB9.out.below t9)
            clear HQ9 RA9 RB9 VA9 RC9 RD9 RE9 VB9
            clear t9
            refine wpAnyH_ready (rs := [32]) (by kernel_rfl) (by simp) (AllReadyH.cons (o := { dst := some 54, op := Op.call { callee := Callee.value (Operand.func 11), args := #[Operand.tmp 47, Operand.tmp 53], argTypes := #[24, 24] }, type := 4, pos := "law.go:83", after := #[{ on := 25, ground := Ground.data }, { on := 31, ground := Ground.data }, { on := 31, ground := Ground.chain }, { on := 22, ground := Ground.guard }], guard := some (22, false) }) rfl (fun K hK => ?_) AllReadyH.nil)
            rw [if_pos (by rfl)]
            go_simp
            (go_at_call 11; refine (same_true _ _ (escL B ++ [255, 239]) _ RE10.out RF10.out (by have := HRL.out; unfold maxLen; omega)).mono ?_; rintro e Z11 ⟨rfl, nn, hz⟩)
            have t10 : Below Z10.heap.size Z10 Z11 := by rw [hz]; exact ⟨rfl, rfl, rfl, Nat.le_refl _, fun _ _ => rfl⟩
            clear hz
            go_wp2_with fail
            refine hK.out _ _ ((HQ10.out.below t10).cell) (fun hHeld => ?_)
            clear hK K
            try simp only [Act.put, List.setIfInBounds_toArray, List.set_cons_zero, List.set_cons_succ]
            have HQ11 := Lib.hid (HQ10.out.below t10)
            have RA11 := Lib.hid (RA10.out.below t10)
            have RB11 := Lib.hid (RB10.out.below t10)
            have VA11 := Lib.hid (VA10.out.below t10)
            have RC11 := Lib.hid (RC10.out.below t10)
            have RD11 := Lib.hid (RD10.out.below t10)
            have RE11 := Lib.hid (RE10.out.below t10)
            have VB11 := Lib.hid (VB10.out.below t10)
            have RF11 := Lib.hid (RF10.out.below t10)
            clear HQ10 RA10 RB10 VA10 RC10 RD10 RE10 VB10 RF10
            clear t10
            refine wpAnyH_take (i := 33) (oi := { dst := some 55, op := Op.unOp UnOp.not 4 (Operand.tmp 54), type := 4, pos := "law.go:83", after := #[{ on := 32, ground := Ground.data }, { on := 22, ground := Ground.guard }], guard := some (22, false) }) (v := ?_) rfl (by kernel_rfl) (by kernel_rfl) (by kernel_rfl) (fun _ _ _ h => h) (Or.inl ⟨by rfl, ?_⟩) (by assumption) ?_
            rotate_left
            focus (intro w hSw; (try dsimp only at hSw); go_simp; try (with_reducible rfl))
            try simp only [Act.put, List.setIfInBounds_toArray, List.set_cons_zero, List.set_cons_succ]
            refine wpAnyH_take (i := 34) (oi := { dst := some 56, op := Op.pick (Operand.tmp 44) (Operand.const (Value.bool true)) (Operand.tmp 55), type := 4, pos := "law.go:83", after := #[{ on := 22, ground := Ground.data }, { on := 33, ground := Ground.data }], guard := none }) (v := ?_) rfl (by kernel_rfl) (by kernel_rfl) (by kernel_rfl) (fun _ _ _ h => h) (Or.inl ⟨by rfl, ?_⟩) (by assumption) ?_
            rotate_left
            focus (intro w hSw; (try dsimp only at hSw); go_simp; try (with_reducible rfl))
            try simp only [Act.put, List.setIfInBounds_toArray, List.set_cons_zero, List.set_cons_succ]
            refine wpAnyH_done (by kernel_rfl) ?_ _
            have HBX := Lib.hid HQ11.out.old
            go_wp2_with fail
            go_roundw
            case rel => exact ⟨k + 1, by omega, by go_num, HNX, HBX⟩
            case measure => simp [intOf]; omega
          · rw [if_pos (by rfl)]
            go_simp
            have t7 := below_alloc Z7 (.cells #[.int .i64 1, .int .u8 0, .int .u8 0, .slice ua ul uc, .int .i64 2, .int .u8 0, .int .u8 0, .slice none 0 0] 32)
            refine hK.out _ _ ((HQ7.out.below t7).cell) (fun hHeld => ?_)
            clear hK K
            try simp only [Act.put, List.setIfInBounds_toArray, List.set_cons_zero, List.set_cons_succ]
            have VB8 := Lib.hid (ev2_new Z7 _ B (HU.out.below HQ7.out.old))
            have HQ8 := Lib.hid (HQ7.out.below t7)
            have RA8 := Lib.hid (RA7.out.below t7)
            have RB8 := Lib.hid (RB7.out.below t7)
            have VA8 := Lib.hid (VA7.out.below t7)
            have RC8 := Lib.hid (RC7.out.below t7)
            have RD8 := Lib.hid (RD7.out.below t7)
            clear HQ7 RA7 RB7 VA7 RC7 RD7
            obtain ⟨Z8, hZ⟩ : ∃ Y, Y = Z7.alloc (.cells #[.int .i64 1, .int .u8 0, .int .u8 0, .slice ua ul uc, .int .i64 2, .int .u8 0, .int .u8 0, .slice none 0 0] 32) := ⟨_, rfl⟩
            obtain ⟨gb, hg⟩ : ∃ g, g = Z7.heap.size := ⟨_, rfl⟩
            rw [← hZ] at HQ8 RA8 RB8 VA8 RC8 RD8 VB8 hHeld ⊢
            rw [← hg] at VB8 ⊢
            clear t7 hZ hg
            refine wpAnyH_ready (rs := [25]) (by kernel_rfl) (by simp) (AllReadyH.cons (o := { dst := some 47, op := Op.call { callee := Callee.value (Operand.func 16), args := #[Operand.tmp 46], argTypes := #[24] }, type := 24, pos := "law.go:83", after := #[{ on := 24, ground := Ground.data }, { on := 22, ground := Ground.chain }, { on := 22, ground := Ground.guard }], guard := some (22, false) }) rfl (fun K hK => ?_) AllReadyH.nil)
            rw [if_pos (by rfl)]
            go_simp
            (go_at_call 16; refine (record_any _ B _ (HU.out.below HQ8.out.old) HBL.out).mono ?_; rintro e Z9 ⟨pe, rfl, hp, t8⟩)
            go_wp2_with fail
            refine hK.out _ _ ((HQ8.out.below t8).cell) (fun hHeld => ?_)
            clear hK K
            try simp only [Act.put, List.setIfInBounds_toArray, List.set_cons_zero, List.set_cons_succ]
            have RE9 := Lib.hid (hp.row)
            have HQ9 := Lib.hid (HQ8.out.below t8)
            have RA9 := Lib.hid (RA8.out.below t8)
            have RB9 := Lib.hid (RB8.out.below t8)
            have VA9 := Lib.hid (VA8.out.below t8)
            have RC9 := Lib.hid (RC8.out.below t8)
            have RD9 := Lib.hid (RD8.out.below t8)
            have VB9 := Lib.hid (VB8.out.below t8)
            clear HQ8 RA8 RB8 VA8 RC8 RD8 VB8
            clear t8
            refine wpAnyH_ready (rs := [31]) (by kernel_rfl) (by simp) (AllReadyH.cons (o := { dst := some 53, op := Op.call { callee := Callee.value (Operand.func 15), args := #[Operand.tmp 52], argTypes := #[33] }, type := 24, pos := "law.go:83", after := #[{ on := 30, ground := Ground.data }, { on := 25, ground := Ground.chain }, { on := 22, ground := Ground.guard }], guard := some (22, false) }) rfl (fun K hK => ?_) AllReadyH.nil)
            rw [if_pos (by rfl)]
            go_simp
            (go_at_call 15; refine (rwrite_any _ [⟨1, 0, 0, B⟩, ⟨2, 0, 0, []⟩] _ VB9.out (by simp; exact HBL.out) (by rw [writeL_rec]; exact HRL.out) (by simp)).mono ?_; rw [writeL_rec]; rintro e Z10 ⟨pf, rfl, hp, t9⟩)
            go_wp2_with fail
            refine hK.out _ _ ((HQ9.out.below t9).cell) (fun hHeld => ?_)
            clear hK K
            try simp only [Act.put, List.setIfInBounds_toArray, List.set_cons_zero, List.set_cons_succ]
            have RF10 := Lib.hid (hp.row)
            have HQ10 := Lib.hid (HQ9.out.below t9)
            have RA10 := Lib.hid (RA9.out.below t9)
            have RB10 := Lib.hid (RB9.out.below t9)
            have VA10 := Lib.hid (VA9.out.below t9)
            have RC10 := Lib.hid (RC9.out.below t9)
            have RD10 := Lib.hid (RD9.out.below t9)
            have VB10 := Lib.hid (VB9.out.below t9)
            have RE10 := Lib.hid (RE9.out.below t9)
            clear HQ9 RA9 RB9 VA9 RC9 RD9 VB9 RE9
            clear t9
            refine wpAnyH_ready (rs := [32]) (by kernel_rfl) (by simp) (AllReadyH.cons (o := { dst := some 54, op := Op.call { callee := Callee.value (Operand.func 11), args := #[Operand.tmp 47, Operand.tmp 53], argTypes := #[24, 24] }, type := 4, pos := "law.go:83", after := #[{ on := 25, ground := Ground.data }, { on := 31, ground := Ground.data }, { on := 31, ground := Ground.chain }, { on := 22, ground := Ground.guard }], guard := some (22, false) }) rfl (fun K hK => ?_) AllReadyH.nil)
            rw [if_pos (by rfl)]
            go_simp
            (go_at_call 11; refine (same_true _ _ (escL B ++ [255, 239]) _ RE10.out RF10.out (by have := HRL.out; unfold maxLen; omega)).mono ?_; rintro e Z11 ⟨rfl, nn, hz⟩)
            have t10 : Below Z10.heap.size Z10 Z11 := by rw [hz]; exact ⟨rfl, rfl, rfl, Nat.le_refl _, fun _ _ => rfl⟩
            clear hz
            go_wp2_with fail
            refine hK.out _ _ ((HQ10.out.below t10).cell) (fun hHeld => ?_)
            clear hK K
            try simp only [Act.put, List.setIfInBounds_toArray, List.set_cons_zero, List.set_cons_succ]
            have HQ11 := Lib.hid (HQ10.out.below t10)
            have RA11 := Lib.hid (RA10.out.below t10)
            have RB11 := Lib.hid (RB10.out.below t10)
            have VA11 := Lib.hid (VA10.out.below t10)
            have RC11 := Lib.hid (RC10.out.below t10)
            have RD11 := Lib.hid (RD10.out.below t10)
            have VB11 := Lib.hid (VB10.out.below t10)
            have RE11 := Lib.hid (RE10.out.below t10)
            have RF11 := Lib.hid (RF10.out.below t10)
            clear HQ10 RA10 RB10 VA10 RC10 RD10 VB10 RE10 RF10
            clear t10
            refine wpAnyH_take (i := 33) (oi := { dst := some 55, op := Op.unOp UnOp.not 4 (Operand.tmp 54), type := 4, pos := "law.go:83", after := #[{ on := 32, ground := Ground.data }, { on := 22, ground := Ground.guard }], guard := some (22, false) }) (v := ?_) rfl (by kernel_rfl) (by kernel_rfl) (by kernel_rfl) (fun _ _ _ h => h) (Or.inl ⟨by rfl, ?_⟩) (by assumption) ?_
            rotate_left
            focus (intro w hSw; (try dsimp only at hSw); go_simp; try (with_reducible rfl))
            try simp only [Act.put, List.setIfInBounds_toArray, List.set_cons_zero, List.set_cons_succ]
            refine wpAnyH_take (i := 34) (oi := { dst := some 56, op := Op.pick (Operand.tmp 44) (Operand.const (Value.bool true)) (Operand.tmp 55), type := 4, pos := "law.go:83", after := #[{ on := 22, ground := Ground.data }, { on := 33, ground := Ground.data }], guard := none }) (v := ?_) rfl (by kernel_rfl) (by kernel_rfl) (by kernel_rfl) (fun _ _ _ h => h) (Or.inl ⟨by rfl, ?_⟩) (by assumption) ?_
            rotate_left
            focus (intro w hSw; (try dsimp only at hSw); go_simp; try (with_reducible rfl))
            try simp only [Act.put, List.setIfInBounds_toArray, List.set_cons_zero, List.set_cons_succ]
            refine wpAnyH_done (by kernel_rfl) ?_ _
            have HBX := Lib.hid HQ11.out.old
            go_wp2_with fail
            go_roundw
            case rel => exact ⟨k + 1, by omega, by go_num, HNX, HBX⟩
            case measure => simp [intOf]; omega
    · obtain rfl : n = k := by omega
      have h400 : ∀ e ∈ L, e.bytes.length ≤ 400 := fun e he => by
        obtain ⟨j, hj, rfl⟩ := List.mem_iff_getElem.1 he
        exact hno.out j _ (by rw [HN.out]; exact hj) (List.getElem?_eq_getElem hj)
      have hw := writeL_le L h400
      have ht := totE_le L h400
      have hj := joinL_le L
      have HB5 : Hid (∀ e ∈ L, e.bytes.length ≤ 100000) := Lib.hid fun e he => by have := h400 e he; omega
      have HWL : Hid ((writeL L).length ≤ 1000000) := Lib.hid (by have := HL60.out; omega)
      have HTOT : Hid (totE L ≤ 100000) := Lib.hid (by have := HL60.out; omega)
      have HJL : Hid ((joinL L).length ≤ 100000) := Lib.hid (by have := HL60.out; omega)
      have HJB : Hid (∀ e ∈ joinL L, e.bytes.length ≤ 1000000) := Lib.hid fun e he => by have := totE_mem _ e he; have := HL60.out; omega
      have HQ0 : Hid (OQ w wr.drew) := Lib.hid (show Below w.heap.size w wr.drew from hold.out.drew)
      clear h400 hw ht hj
      go_upto_region 13 with fail
      refine wp_region_held_drew (S := fun _ => True) (by kernel_rfl) trivial (fun hHeld => ?_)
      obtain ⟨Z0, hZ0⟩ : ∃ Y, Y = wr.drew := ⟨_, rfl⟩
      rw [← hZ0] at HQ0 ⊢
      clear hZ0 hold
      refine wpAnyH_take (i := 0) (oi := { dst := some 58, op := Op.move (Operand.tmp 0), type := 22, pos := "law.go:87", after := #[], guard := none }) (v := ?_) rfl (by kernel_rfl) (by kernel_rfl) (by kernel_rfl) (fun _ _ _ h => h) (Or.inl ⟨by rfl, ?_⟩) (by assumption) ?_
      rotate_left
      focus (intro w hSw; (try dsimp only at hSw); go_simp; try (with_reducible rfl))
      try simp only [Act.put, List.setIfInBounds_toArray, List.set_cons_zero, List.set_cons_succ]
      refine wpAnyH_take (i := 2) (oi := { dst := some 60, op := Op.move (Operand.tmp 0), type := 22, pos := "law.go:87", after := #[], guard := none }) (v := ?_) rfl (by kernel_rfl) (by kernel_rfl) (by kernel_rfl) (fun _ _ _ h => h) (Or.inl ⟨by rfl, ?_⟩) (by assumption) ?_
      rotate_left
      focus (intro w hSw; (try dsimp only at hSw); go_simp; try (with_reducible rfl))
      try simp only [Act.put, List.setIfInBounds_toArray, List.set_cons_zero, List.set_cons_succ]
      refine wpAnyH_ready (rs := [1]) (by kernel_rfl) (by simp) (AllReadyH.cons (o := { dst := some 59, op := Op.call { callee := Callee.value (Operand.func 17), args := #[Operand.tmp 58], argTypes := #[22] }, type := 24, pos := "law.go:87", after := #[{ on := 0, ground := Ground.data }], guard := none }) rfl (fun K hK => ?_) AllReadyH.nil)
      rw [if_pos (by rfl)]
      go_simp
      (go_at_call 17; refine (write_any _ L _ (HE.out.below HQ0.out) HB5.out HWL.out (by have := HLM.out; unfold maxLen; omega)).mono ?_; rintro e Z1 ⟨pa, rfl, hp, t0⟩)
      go_wp2_with fail
      refine hK.out _ _ (trivial) (fun hHeld => ?_)
      clear hK K
      try simp only [Act.put, List.setIfInBounds_toArray, List.set_cons_zero, List.set_cons_succ]
      have RA1 := Lib.hid (hp.row)
      have HQ1 := Lib.hid (HQ0.out.below t0)
      clear HQ0
      clear t0
      refine wpAnyH_ready (rs := [3]) (by kernel_rfl) (by simp) (AllReadyH.cons (o := { dst := some 61, op := Op.call { callee := Callee.value (Operand.func 18), args := #[Operand.tmp 60], argTypes := #[22] }, type := 33, pos := "law.go:87", after := #[{ on := 2, ground := Ground.data }, { on := 1, ground := Ground.chain }], guard := none }) rfl (fun K hK => ?_) AllReadyH.nil)
      rw [if_pos (by rfl)]
      go_simp
      (go_at_call 18; refine (as_any _ L _ (HE.out.below HQ1.out) HLM.out).mono ?_; rintro e Z2 ⟨va, rfl, hp, t1⟩)
      go_wp2_with fail
      refine hK.out _ _ (trivial) (fun hHeld => ?_)
      clear hK K
      try simp only [Act.put, List.setIfInBounds_toArray, List.set_cons_zero, List.set_cons_succ]
      have VA2 := Lib.hid (hp)
      have HQ2 := Lib.hid (HQ1.out.below t1)
      have RA2 := Lib.hid (RA1.out.below t1)
      clear HQ1 RA1
      clear t1
      refine wpAnyH_ready (rs := [4]) (by kernel_rfl) (by simp) (AllReadyH.cons (o := { dst := some 62, op := Op.call { callee := Callee.value (Operand.func 15), args := #[Operand.tmp 61], argTypes := #[33] }, type := 24, pos := "law.go:87", after := #[{ on := 3, ground := Ground.data }, { on := 3, ground := Ground.chain }], guard := none }) rfl (fun K hK => ?_) AllReadyH.nil)
      rw [if_pos (by rfl)]
      go_simp
      (go_at_call 15; refine (rwrite_any _ L _ VA2.out HB5.out HWL.out (by have := HL60.out; omega)).mono ?_; rintro e Z3 ⟨pb, rfl, hp, t2⟩)
      go_wp2_with fail
      refine hK.out _ _ (trivial) (fun hHeld => ?_)
      clear hK K
      try simp only [Act.put, List.setIfInBounds_toArray, List.set_cons_zero, List.set_cons_succ]
      have RB3 := Lib.hid (hp.row)
      have HQ3 := Lib.hid (HQ2.out.below t2)
      have RA3 := Lib.hid (RA2.out.below t2)
      have VA3 := Lib.hid (VA2.out.below t2)
      clear HQ2 RA2 VA2
      clear t2
      refine wpAnyH_ready (rs := [5]) (by kernel_rfl) (by simp) (AllReadyH.cons (o := { dst := some 63, op := Op.call { callee := Callee.value (Operand.func 11), args := #[Operand.tmp 59, Operand.tmp 62], argTypes := #[24, 24] }, type := 4, pos := "law.go:87", after := #[{ on := 1, ground := Ground.data }, { on := 4, ground := Ground.data }, { on := 4, ground := Ground.chain }], guard := none }) rfl (fun K hK => ?_) AllReadyH.nil)
      rw [if_pos (by rfl)]
      go_simp
      (go_at_call 11; refine (same_true _ _ (writeL L) _ RA3.out RB3.out (by have := HWL.out; unfold maxLen; omega)).mono ?_; rintro e Z4 ⟨rfl, nn, hz⟩)
      have t3 : Below Z3.heap.size Z3 Z4 := by rw [hz]; exact ⟨rfl, rfl, rfl, Nat.le_refl _, fun _ _ => rfl⟩
      clear hz
      go_wp2_with fail
      refine hK.out _ _ (trivial) (fun hHeld => ?_)
      clear hK K
      try simp only [Act.put, List.setIfInBounds_toArray, List.set_cons_zero, List.set_cons_succ]
      have HQ4 := Lib.hid (HQ3.out.below t3)
      have RA4 := Lib.hid (RA3.out.below t3)
      have VA4 := Lib.hid (VA3.out.below t3)
      have RB4 := Lib.hid (RB3.out.below t3)
      clear HQ3 RA3 VA3 RB3
      clear t3
      refine wpAnyH_take (i := 6) (oi := { dst := some 64, op := Op.move (Operand.tmp 63), type := 4, pos := "law.go:87", after := #[{ on := 5, ground := Ground.data }, { on := 5, ground := Ground.chain }], guard := none }) (v := ?_) rfl (by kernel_rfl) (by kernel_rfl) (by kernel_rfl) (fun _ _ _ h => h) (Or.inl ⟨by rfl, ?_⟩) (by assumption) ?_
      rotate_left
      focus (intro w hSw; (try dsimp only at hSw); go_simp; try (with_reducible rfl))
      try simp only [Act.put, List.setIfInBounds_toArray, List.set_cons_zero, List.set_cons_succ]
      refine wpAnyH_take (i := 7) (oi := { dst := some 65, op := Op.move (Operand.tmp 0), type := 22, pos := "law.go:87", after := #[{ on := 6, ground := Ground.guard }], guard := some (6, true) }) (v := ?_) rfl (by kernel_rfl) (by kernel_rfl) (by kernel_rfl) (fun _ _ _ h => h) (Or.inl ⟨by rfl, ?_⟩) (by assumption) ?_
      rotate_left
      focus (intro w hSw; (try dsimp only at hSw); go_simp; try (with_reducible rfl))
      try simp only [Act.put, List.setIfInBounds_toArray, List.set_cons_zero, List.set_cons_succ]
      refine wpAnyH_take (i := 10) (oi := { dst := some 68, op := Op.move (Operand.tmp 0), type := 22, pos := "law.go:87", after := #[{ on := 6, ground := Ground.guard }], guard := some (6, true) }) (v := ?_) rfl (by kernel_rfl) (by kernel_rfl) (by kernel_rfl) (fun _ _ _ h => h) (Or.inl ⟨by rfl, ?_⟩) (by assumption) ?_
      rotate_left
      focus (intro w hSw; (try dsimp only at hSw); go_simp; try (with_reducible rfl))
      try simp only [Act.put, List.setIfInBounds_toArray, List.set_cons_zero, List.set_cons_succ]
      refine wpAnyH_ready (rs := [8]) (by kernel_rfl) (by simp) (AllReadyH.cons (o := { dst := some 66, op := Op.call { callee := Callee.value (Operand.func 20), args := #[Operand.tmp 65], argTypes := #[22] }, type := 22, pos := "law.go:87", after := #[{ on := 7, ground := Ground.data }, { on := 6, ground := Ground.chain }, { on := 6, ground := Ground.guard }], guard := some (6, true) }) rfl (fun K hK => ?_) AllReadyH.nil)
      rw [if_pos (by rfl)]
      go_simp
      (go_at_call 20; refine (join_any _ L _ (HE.out.below HQ4.out) (by have := HLM.out; have := HL60.out; omega) HTOT.out).mono ?_; rintro e Z5 ⟨vb, P, rfl, hp, hP, t4⟩)
      go_wp2_with fail
      refine hK.out _ _ (trivial) (fun hHeld => ?_)
      clear hK K
      try simp only [Act.put, List.setIfInBounds_toArray, List.set_cons_zero, List.set_cons_succ]
      have VB5 := Lib.hid ((by have := hp.evsAt; rwa [hP] at this))
      have HQ5 := Lib.hid (HQ4.out.below t4)
      have RA5 := Lib.hid (RA4.out.below t4)
      have VA5 := Lib.hid (VA4.out.below t4)
      have RB5 := Lib.hid (RB4.out.below t4)
      clear HQ4 RA4 VA4 RB4
      clear t4
      refine wpAnyH_ready (rs := [9]) (by kernel_rfl) (by simp) (AllReadyH.cons (o := { dst := some 67, op := Op.call { callee := Callee.value (Operand.func 18), args := #[Operand.tmp 66], argTypes := #[22] }, type := 33, pos := "law.go:87", after := #[{ on := 8, ground := Ground.data }, { on := 8, ground := Ground.chain }, { on := 6, ground := Ground.guard }], guard := some (6, true) }) rfl (fun K hK => ?_) AllReadyH.nil)
      rw [if_pos (by rfl)]
      go_simp
      (go_at_call 18; refine (as_any _ (joinL L) _ VB5.out HJL.out).mono ?_; rintro e Z6 ⟨vc, rfl, hp, t5⟩)
      go_wp2_with fail
      refine hK.out _ _ (trivial) (fun hHeld => ?_)
      clear hK K
      try simp only [Act.put, List.setIfInBounds_toArray, List.set_cons_zero, List.set_cons_succ]
      have VC6 := Lib.hid (hp)
      have HQ6 := Lib.hid (HQ5.out.below t5)
      have RA6 := Lib.hid (RA5.out.below t5)
      have VA6 := Lib.hid (VA5.out.below t5)
      have RB6 := Lib.hid (RB5.out.below t5)
      have VB6 := Lib.hid (VB5.out.below t5)
      clear HQ5 RA5 VA5 RB5 VB5
      clear t5
      refine wpAnyH_ready (rs := [11]) (by kernel_rfl) (by simp) (AllReadyH.cons (o := { dst := some 69, op := Op.call { callee := Callee.value (Operand.func 18), args := #[Operand.tmp 68], argTypes := #[22] }, type := 33, pos := "law.go:87", after := #[{ on := 10, ground := Ground.data }, { on := 9, ground := Ground.chain }, { on := 6, ground := Ground.guard }], guard := some (6, true) }) rfl (fun K hK => ?_) AllReadyH.nil)
      rw [if_pos (by rfl)]
      go_simp
      (go_at_call 18; refine (as_any _ L _ (HE.out.below HQ6.out) HLM.out).mono ?_; rintro e Z7 ⟨vd, rfl, hp, t6⟩)
      go_wp2_with fail
      refine hK.out _ _ (trivial) (fun hHeld => ?_)
      clear hK K
      try simp only [Act.put, List.setIfInBounds_toArray, List.set_cons_zero, List.set_cons_succ]
      have VD7 := Lib.hid (hp)
      have HQ7 := Lib.hid (HQ6.out.below t6)
      have RA7 := Lib.hid (RA6.out.below t6)
      have VA7 := Lib.hid (VA6.out.below t6)
      have RB7 := Lib.hid (RB6.out.below t6)
      have VB7 := Lib.hid (VB6.out.below t6)
      have VC7 := Lib.hid (VC6.out.below t6)
      clear HQ6 RA6 VA6 RB6 VB6 VC6
      clear t6
      refine wpAnyH_ready (rs := [12]) (by kernel_rfl) (by simp) (AllReadyH.cons (o := { dst := some 70, op := Op.call { callee := Callee.value (Operand.func 21), args := #[Operand.tmp 69], argTypes := #[33] }, type := 33, pos := "law.go:87", after := #[{ on := 11, ground := Ground.data }, { on := 11, ground := Ground.chain }, { on := 6, ground := Ground.guard }], guard := some (6, true) }) rfl (fun K hK => ?_) AllReadyH.nil)
      rw [if_pos (by rfl)]
      go_simp
      (go_at_call 21; refine (rjoined_any _ L _ VD7.out (by have := HL60.out; omega) HTOT.out).mono ?_; rintro e Z8 ⟨ve, P2, rfl, hp, hP, t7⟩)
      go_wp2_with fail
      refine hK.out _ _ (trivial) (fun hHeld => ?_)
      clear hK K
      try simp only [Act.put, List.setIfInBounds_toArray, List.set_cons_zero, List.set_cons_succ]
      have VE8 := Lib.hid ((by have := hp.evsAt; rwa [hP] at this))
      have HQ8 := Lib.hid (HQ7.out.below t7)
      have RA8 := Lib.hid (RA7.out.below t7)
      have VA8 := Lib.hid (VA7.out.below t7)
      have RB8 := Lib.hid (RB7.out.below t7)
      have VB8 := Lib.hid (VB7.out.below t7)
      have VC8 := Lib.hid (VC7.out.below t7)
      have VD8 := Lib.hid (VD7.out.below t7)
      clear HQ7 RA7 VA7 RB7 VB7 VC7 VD7
      clear t7
      refine wpAnyH_ready (rs := [13]) (by kernel_rfl) (by simp) (AllReadyH.cons (o := { dst := some 71, op := Op.call { callee := Callee.value (Operand.func 19), args := #[Operand.tmp 67, Operand.tmp 70], argTypes := #[33, 33] }, type := 4, pos := "law.go:87", after := #[{ on := 9, ground := Ground.data }, { on := 12, ground := Ground.data }, { on := 12, ground := Ground.chain }, { on := 6, ground := Ground.guard }], guard := some (6, true) }) rfl (fun K hK => ?_) AllReadyH.nil)
      rw [if_pos (by rfl)]
      go_simp
      (go_at_call 19; refine (same5_true _ _ (joinL L) _ VC8.out VE8.out HJL.out HJB.out).mono ?_; rintro e Z9 ⟨rfl, nn, hz⟩)
      have t8 : Below Z8.heap.size Z8 Z9 := by rw [hz]; exact ⟨rfl, rfl, rfl, Nat.le_refl _, fun _ _ => rfl⟩
      clear hz
      go_wp2_with fail
      refine hK.out _ _ (trivial) (fun hHeld => ?_)
      clear hK K
      try simp only [Act.put, List.setIfInBounds_toArray, List.set_cons_zero, List.set_cons_succ]
      have HQ9 := Lib.hid (HQ8.out.below t8)
      have RA9 := Lib.hid (RA8.out.below t8)
      have VA9 := Lib.hid (VA8.out.below t8)
      have RB9 := Lib.hid (RB8.out.below t8)
      have VB9 := Lib.hid (VB8.out.below t8)
      have VC9 := Lib.hid (VC8.out.below t8)
      have VD9 := Lib.hid (VD8.out.below t8)
      have VE9 := Lib.hid (VE8.out.below t8)
      clear HQ8 RA8 VA8 RB8 VB8 VC8 VD8 VE8
      clear t8
      refine wpAnyH_take (i := 14) (oi := { dst := some 72, op := Op.pick (Operand.tmp 64) (Operand.tmp 71) (Operand.const (Value.bool false)), type := 4, pos := "law.go:87", after := #[{ on := 6, ground := Ground.data }, { on := 13, ground := Ground.data }], guard := none }) (v := ?_) rfl (by kernel_rfl) (by kernel_rfl) (by kernel_rfl) (fun _ _ _ h => h) (Or.inl ⟨by rfl, ?_⟩) (by assumption) ?_
      rotate_left
      focus (intro w hSw; (try dsimp only at hSw); go_simp; try (with_reducible rfl))
      try simp only [Act.put, List.setIfInBounds_toArray, List.set_cons_zero, List.set_cons_succ]
      refine wpAnyH_take (i := 15) (oi := { dst := some 73, op := Op.move (Operand.tmp 72), type := 4, pos := "law.go:87", after := #[{ on := 14, ground := Ground.data }, { on := 13, ground := Ground.chain }], guard := none }) (v := ?_) rfl (by kernel_rfl) (by kernel_rfl) (by kernel_rfl) (fun _ _ _ h => h) (Or.inl ⟨by rfl, ?_⟩) (by assumption) ?_
      rotate_left
      focus (intro w hSw; (try dsimp only at hSw); go_simp; try (with_reducible rfl))
      try simp only [Act.put, List.setIfInBounds_toArray, List.set_cons_zero, List.set_cons_succ]
      refine wpAnyH_take (i := 16) (oi := { dst := some 74, op := Op.move (Operand.tmp 1), type := 5, pos := "law.go:87", after := #[{ on := 15, ground := Ground.guard }], guard := some (15, true) }) (v := ?_) rfl (by kernel_rfl) (by kernel_rfl) (by kernel_rfl) (fun _ _ _ h => h) (Or.inl ⟨by rfl, ?_⟩) (by assumption) ?_
      rotate_left
      focus (intro w hSw; (try dsimp only at hSw); go_simp; try (with_reducible rfl))
      try simp only [Act.put, List.setIfInBounds_toArray, List.set_cons_zero, List.set_cons_succ]
      refine wpAnyH_take (i := 19) (oi := { dst := some 77, op := Op.move (Operand.tmp 1), type := 5, pos := "law.go:87", after := #[{ on := 15, ground := Ground.guard }], guard := some (15, true) }) (v := ?_) rfl (by kernel_rfl) (by kernel_rfl) (by kernel_rfl) (fun _ _ _ h => h) (Or.inl ⟨by rfl, ?_⟩) (by assumption) ?_
      rotate_left
      focus (intro w hSw; (try dsimp only at hSw); go_simp; try (with_reducible rfl))
      try simp only [Act.put, List.setIfInBounds_toArray, List.set_cons_zero, List.set_cons_succ]
      refine wpAnyH_ready (rs := [17, 20]) (by kernel_rfl) (by simp) (AllReadyH.cons (o := { dst := some 75, op := Op.call { callee := Callee.value (Operand.func 22), args := #[Operand.tmp 74, Operand.const (Value.int IntKind.u8 7)], argTypes := #[5, 5] }, type := 24, pos := "law.go:87", after := #[{ on := 16, ground := Ground.data }, { on := 15, ground := Ground.chain }, { on := 15, ground := Ground.guard }], guard := some (15, true) }) rfl (fun K hK => ?_) (AllReadyH.cons (o := { dst := some 78, op := Op.buildSlice 24 3 #[(0, Operand.const (Value.int IntKind.u8 255)), (1, Operand.tmp 77), (2, Operand.const (Value.int IntKind.u8 7))], type := 24, pos := "law.go:87", after := #[{ on := 19, ground := Ground.data }, { on := 15, ground := Ground.guard }], guard := some (15, true) }) rfl (fun K hK => ?_) AllReadyH.nil))
      · rw [if_pos (by rfl)]
        go_simp
        (go_at_call 22; refine (say_own opt 7 _).mono ?_; rintro e Z10 ⟨pg, rfl, hp, t9⟩)
        go_wp2_with fail
        refine hK.out _ _ (trivial) (fun hHeld => ?_)
        clear hK K
        try simp only [Act.put, List.setIfInBounds_toArray, List.set_cons_zero, List.set_cons_succ]
        have RG10 := Lib.hid (hp.row)
        have HQ10 := Lib.hid (HQ9.out.below t9)
        have RA10 := Lib.hid (RA9.out.below t9)
        have VA10 := Lib.hid (VA9.out.below t9)
        have RB10 := Lib.hid (RB9.out.below t9)
        have VB10 := Lib.hid (VB9.out.below t9)
        have VC10 := Lib.hid (VC9.out.below t9)
        have VD10 := Lib.hid (VD9.out.below t9)
        have VE10 := Lib.hid (VE9.out.below t9)
        clear HQ9 RA9 VA9 RB9 VB9 VC9 VD9 VE9
        clear t9
        refine wpAnyH_ready (rs := [18, 20]) (by kernel_rfl) (by simp) (AllReadyH.cons (o := { dst := some 76, op := Op.convert 24 9 (Operand.tmp 75), type := 9, pos := "law.go:87", after := #[{ on := 17, ground := Ground.data }, { on := 15, ground := Ground.guard }], guard := some (15, true) }) rfl (fun K hK => ?_) (AllReadyH.cons (o := { dst := some 78, op := Op.buildSlice 24 3 #[(0, Operand.const (Value.int IntKind.u8 255)), (1, Operand.tmp 77), (2, Operand.const (Value.int IntKind.u8 7))], type := 24, pos := "law.go:87", after := #[{ on := 19, ground := Ground.data }, { on := 15, ground := Ground.guard }], guard := some (15, true) }) rfl (fun K hK => ?_) AllReadyH.nil))
        · have hstr := row_str RG10.out
          rw [if_pos (by rfl)]
          go_simp
          refine hK.out _ _ trivial (fun hHeld => ?_)
          clear hK K hstr
          try simp only [Act.put, List.setIfInBounds_toArray, List.set_cons_zero, List.set_cons_succ]
          refine wpAnyH_ready (rs := [20]) (by kernel_rfl) (by simp) (AllReadyH.cons (o := { dst := some 78, op := Op.buildSlice 24 3 #[(0, Operand.const (Value.int IntKind.u8 255)), (1, Operand.tmp 77), (2, Operand.const (Value.int IntKind.u8 7))], type := 24, pos := "law.go:87", after := #[{ on := 19, ground := Ground.data }, { on := 15, ground := Ground.guard }], guard := some (15, true) }) rfl (fun K hK => ?_) AllReadyH.nil)
          rw [if_pos (by rfl)]
          go_simp
          have t10 := below_alloc Z10 (.cells #[.int .u8 255, .int .u8 opt, .int .u8 7] 5)
          refine hK.out _ _ (trivial) (fun hHeld => ?_)
          clear hK K
          try simp only [Act.put, List.setIfInBounds_toArray, List.set_cons_zero, List.set_cons_succ]
          have RH11 := Lib.hid ((new3_own Z10 255 opt 7).row)
          have HQ11 := Lib.hid (HQ10.out.below t10)
          have RA11 := Lib.hid (RA10.out.below t10)
          have VA11 := Lib.hid (VA10.out.below t10)
          have RB11 := Lib.hid (RB10.out.below t10)
          have VB11 := Lib.hid (VB10.out.below t10)
          have VC11 := Lib.hid (VC10.out.below t10)
          have VD11 := Lib.hid (VD10.out.below t10)
          have VE11 := Lib.hid (VE10.out.below t10)
          have RG11 := Lib.hid (RG10.out.below t10)
          clear HQ10 RA10 VA10 RB10 VB10 VC10 VD10 VE10 RG10
          obtain ⟨Z11, hZ⟩ : ∃ Y, Y = Z10.alloc (.cells #[.int .u8 255, .int .u8 opt, .int .u8 7] 5) := ⟨_, rfl⟩
          obtain ⟨gh, hg⟩ : ∃ g, g = Z10.heap.size := ⟨_, rfl⟩
          rw [← hZ] at HQ11 RA11 VA11 RB11 VB11 VC11 VD11 VE11 RG11 RH11 ⊢
          rw [← hg] at RH11 ⊢
          clear t10 hZ hg
          refine wpAnyH_ready (rs := [21]) (by kernel_rfl) (by simp) (AllReadyH.cons (o := { dst := some 79, op := Op.convert 24 9 (Operand.tmp 78), type := 9, pos := "law.go:87", after := #[{ on := 20, ground := Ground.data }, { on := 15, ground := Ground.guard }], guard := some (15, true) }) rfl (fun K hK => ?_) AllReadyH.nil)
          have hstr := row_str RH11.out
          rw [if_pos (by rfl)]
          go_simp
          refine hK.out _ _ trivial (fun hHeld => ?_)
          clear hK K hstr
          try simp only [Act.put, List.setIfInBounds_toArray, List.set_cons_zero, List.set_cons_succ]
          refine wpAnyH_take (i := 22) (oi := { dst := some 80, op := Op.binOp BinOp.eql 9 (Operand.tmp 76) (Operand.tmp 79) 9, type := 4, pos := "law.go:87", after := #[{ on := 18, ground := Ground.data }, { on := 21, ground := Ground.data }, { on := 15, ground := Ground.guard }], guard := some (15, true) }) (v := ?_) rfl (by kernel_rfl) (by kernel_rfl) (by kernel_rfl) (fun _ _ _ h => h) (Or.inl ⟨by rfl, ?_⟩) (by assumption) ?_
          rotate_left
          focus (intro w hSw; (try dsimp only at hSw); go_simp; try (with_reducible rfl))
          try simp only [Act.put, List.setIfInBounds_toArray, List.set_cons_zero, List.set_cons_succ]
          refine wpAnyH_take (i := 23) (oi := { dst := some 81, op := Op.pick (Operand.tmp 73) (Operand.tmp 80) (Operand.const (Value.bool false)), type := 4, pos := "law.go:87", after := #[{ on := 15, ground := Ground.data }, { on := 22, ground := Ground.data }], guard := none }) (v := ?_) rfl (by kernel_rfl) (by kernel_rfl) (by kernel_rfl) (fun _ _ _ h => h) (Or.inl ⟨by rfl, ?_⟩) (by assumption) ?_
          rotate_left
          focus (intro w hSw; (try dsimp only at hSw); go_simp; try (with_reducible rfl))
          try simp only [Act.put, List.setIfInBounds_toArray, List.set_cons_zero, List.set_cons_succ]
          refine wpAnyH_take (i := 24) (oi := { dst := some 4, op := Op.assign (Operand.tmp 81), type := 4, pos := "law.go:87", after := #[{ on := 23, ground := Ground.data }, { on := 17, ground := Ground.chain }, { on := 0, ground := Ground.phase }, { on := 1, ground := Ground.phase }, { on := 2, ground := Ground.phase }, { on := 3, ground := Ground.phase }, { on := 4, ground := Ground.phase }, { on := 5, ground := Ground.phase }, { on := 6, ground := Ground.phase }, { on := 7, ground := Ground.phase }, { on := 8, ground := Ground.phase }, { on := 9, ground := Ground.phase }, { on := 10, ground := Ground.phase }, { on := 11, ground := Ground.phase }, { on := 12, ground := Ground.phase }, { on := 13, ground := Ground.phase }, { on := 14, ground := Ground.phase }, { on := 15, ground := Ground.phase }, { on := 16, ground := Ground.phase }, { on := 17, ground := Ground.phase }, { on := 18, ground := Ground.phase }, { on := 19, ground := Ground.phase }, { on := 20, ground := Ground.phase }, { on := 21, ground := Ground.phase }, { on := 22, ground := Ground.phase }, { on := 23, ground := Ground.phase }], guard := none }) (v := ?_) rfl (by kernel_rfl) (by kernel_rfl) (by kernel_rfl) (fun _ _ _ h => h) (Or.inl ⟨by rfl, ?_⟩) (by assumption) ?_
          rotate_left
          focus (intro w hSw; (try dsimp only at hSw); go_simp; try (with_reducible rfl))
          try simp only [Act.put, List.setIfInBounds_toArray, List.set_cons_zero, List.set_cons_succ]
          refine wpAnyH_done (by kernel_rfl) ?_ _
          have HBX := Lib.hid HQ11.out
          go_wp2_with fail
          go_ret
          exact ⟨by first | rfl | simp, HBX.out⟩
        · rw [if_pos (by rfl)]
          go_simp
          have t10 := below_alloc Z10 (.cells #[.int .u8 255, .int .u8 opt, .int .u8 7] 5)
          refine hK.out _ _ (trivial) (fun hHeld => ?_)
          clear hK K
          try simp only [Act.put, List.setIfInBounds_toArray, List.set_cons_zero, List.set_cons_succ]
          have RH11 := Lib.hid ((new3_own Z10 255 opt 7).row)
          have HQ11 := Lib.hid (HQ10.out.below t10)
          have RA11 := Lib.hid (RA10.out.below t10)
          have VA11 := Lib.hid (VA10.out.below t10)
          have RB11 := Lib.hid (RB10.out.below t10)
          have VB11 := Lib.hid (VB10.out.below t10)
          have VC11 := Lib.hid (VC10.out.below t10)
          have VD11 := Lib.hid (VD10.out.below t10)
          have VE11 := Lib.hid (VE10.out.below t10)
          have RG11 := Lib.hid (RG10.out.below t10)
          clear HQ10 RA10 VA10 RB10 VB10 VC10 VD10 VE10 RG10
          obtain ⟨Z11, hZ⟩ : ∃ Y, Y = Z10.alloc (.cells #[.int .u8 255, .int .u8 opt, .int .u8 7] 5) := ⟨_, rfl⟩
          obtain ⟨gh, hg⟩ : ∃ g, g = Z10.heap.size := ⟨_, rfl⟩
          rw [← hZ] at HQ11 RA11 VA11 RB11 VB11 VC11 VD11 VE11 RG11 RH11 ⊢
          rw [← hg] at RH11 ⊢
          clear t10 hZ hg
          refine wpAnyH_ready (rs := [18, 21]) (by kernel_rfl) (by simp) (AllReadyH.cons (o := { dst := some 76, op := Op.convert 24 9 (Operand.tmp 75), type := 9, pos := "law.go:87", after := #[{ on := 17, ground := Ground.data }, { on := 15, ground := Ground.guard }], guard := some (15, true) }) rfl (fun K hK => ?_) (AllReadyH.cons (o := { dst := some 79, op := Op.convert 24 9 (Operand.tmp 78), type := 9, pos := "law.go:87", after := #[{ on := 20, ground := Ground.data }, { on := 15, ground := Ground.guard }], guard := some (15, true) }) rfl (fun K hK => ?_) AllReadyH.nil))
          · have hstr := row_str RG11.out
            rw [if_pos (by rfl)]
            go_simp
            refine hK.out _ _ trivial (fun hHeld => ?_)
            clear hK K hstr
            try simp only [Act.put, List.setIfInBounds_toArray, List.set_cons_zero, List.set_cons_succ]
            refine wpAnyH_ready (rs := [21]) (by kernel_rfl) (by simp) (AllReadyH.cons (o := { dst := some 79, op := Op.convert 24 9 (Operand.tmp 78), type := 9, pos := "law.go:87", after := #[{ on := 20, ground := Ground.data }, { on := 15, ground := Ground.guard }], guard := some (15, true) }) rfl (fun K hK => ?_) AllReadyH.nil)
            have hstr := row_str RH11.out
            rw [if_pos (by rfl)]
            go_simp
            refine hK.out _ _ trivial (fun hHeld => ?_)
            clear hK K hstr
            try simp only [Act.put, List.setIfInBounds_toArray, List.set_cons_zero, List.set_cons_succ]
            refine wpAnyH_take (i := 22) (oi := { dst := some 80, op := Op.binOp BinOp.eql 9 (Operand.tmp 76) (Operand.tmp 79) 9, type := 4, pos := "law.go:87", after := #[{ on := 18, ground := Ground.data }, { on := 21, ground := Ground.data }, { on := 15, ground := Ground.guard }], guard := some (15, true) }) (v := ?_) rfl (by kernel_rfl) (by kernel_rfl) (by kernel_rfl) (fun _ _ _ h => h) (Or.inl ⟨by rfl, ?_⟩) (by assumption) ?_
            rotate_left
            focus (intro w hSw; (try dsimp only at hSw); go_simp; try (with_reducible rfl))
            try simp only [Act.put, List.setIfInBounds_toArray, List.set_cons_zero, List.set_cons_succ]
            refine wpAnyH_take (i := 23) (oi := { dst := some 81, op := Op.pick (Operand.tmp 73) (Operand.tmp 80) (Operand.const (Value.bool false)), type := 4, pos := "law.go:87", after := #[{ on := 15, ground := Ground.data }, { on := 22, ground := Ground.data }], guard := none }) (v := ?_) rfl (by kernel_rfl) (by kernel_rfl) (by kernel_rfl) (fun _ _ _ h => h) (Or.inl ⟨by rfl, ?_⟩) (by assumption) ?_
            rotate_left
            focus (intro w hSw; (try dsimp only at hSw); go_simp; try (with_reducible rfl))
            try simp only [Act.put, List.setIfInBounds_toArray, List.set_cons_zero, List.set_cons_succ]
            refine wpAnyH_take (i := 24) (oi := { dst := some 4, op := Op.assign (Operand.tmp 81), type := 4, pos := "law.go:87", after := #[{ on := 23, ground := Ground.data }, { on := 17, ground := Ground.chain }, { on := 0, ground := Ground.phase }, { on := 1, ground := Ground.phase }, { on := 2, ground := Ground.phase }, { on := 3, ground := Ground.phase }, { on := 4, ground := Ground.phase }, { on := 5, ground := Ground.phase }, { on := 6, ground := Ground.phase }, { on := 7, ground := Ground.phase }, { on := 8, ground := Ground.phase }, { on := 9, ground := Ground.phase }, { on := 10, ground := Ground.phase }, { on := 11, ground := Ground.phase }, { on := 12, ground := Ground.phase }, { on := 13, ground := Ground.phase }, { on := 14, ground := Ground.phase }, { on := 15, ground := Ground.phase }, { on := 16, ground := Ground.phase }, { on := 17, ground := Ground.phase }, { on := 18, ground := Ground.phase }, { on := 19, ground := Ground.phase }, { on := 20, ground := Ground.phase }, { on := 21, ground := Ground.phase }, { on := 22, ground := Ground.phase }, { on := 23, ground := Ground.phase }], guard := none }) (v := ?_) rfl (by kernel_rfl) (by kernel_rfl) (by kernel_rfl) (fun _ _ _ h => h) (Or.inl ⟨by rfl, ?_⟩) (by assumption) ?_
            rotate_left
            focus (intro w hSw; (try dsimp only at hSw); go_simp; try (with_reducible rfl))
            try simp only [Act.put, List.setIfInBounds_toArray, List.set_cons_zero, List.set_cons_succ]
            refine wpAnyH_done (by kernel_rfl) ?_ _
            have HBX := Lib.hid HQ11.out
            go_wp2_with fail
            go_ret
            exact ⟨by first | rfl | simp, HBX.out⟩
          · have hstr := row_str RH11.out
            rw [if_pos (by rfl)]
            go_simp
            refine hK.out _ _ trivial (fun hHeld => ?_)
            clear hK K hstr
            try simp only [Act.put, List.setIfInBounds_toArray, List.set_cons_zero, List.set_cons_succ]
            refine wpAnyH_ready (rs := [18]) (by kernel_rfl) (by simp) (AllReadyH.cons (o := { dst := some 76, op := Op.convert 24 9 (Operand.tmp 75), type := 9, pos := "law.go:87", after := #[{ on := 17, ground := Ground.data }, { on := 15, ground := Ground.guard }], guard := some (15, true) }) rfl (fun K hK => ?_) AllReadyH.nil)
            have hstr := row_str RG11.out
            rw [if_pos (by rfl)]
            go_simp
            refine hK.out _ _ trivial (fun hHeld => ?_)
            clear hK K hstr
            try simp only [Act.put, List.setIfInBounds_toArray, List.set_cons_zero, List.set_cons_succ]
            refine wpAnyH_take (i := 22) (oi := { dst := some 80, op := Op.binOp BinOp.eql 9 (Operand.tmp 76) (Operand.tmp 79) 9, type := 4, pos := "law.go:87", after := #[{ on := 18, ground := Ground.data }, { on := 21, ground := Ground.data }, { on := 15, ground := Ground.guard }], guard := some (15, true) }) (v := ?_) rfl (by kernel_rfl) (by kernel_rfl) (by kernel_rfl) (fun _ _ _ h => h) (Or.inl ⟨by rfl, ?_⟩) (by assumption) ?_
            rotate_left
            focus (intro w hSw; (try dsimp only at hSw); go_simp; try (with_reducible rfl))
            try simp only [Act.put, List.setIfInBounds_toArray, List.set_cons_zero, List.set_cons_succ]
            refine wpAnyH_take (i := 23) (oi := { dst := some 81, op := Op.pick (Operand.tmp 73) (Operand.tmp 80) (Operand.const (Value.bool false)), type := 4, pos := "law.go:87", after := #[{ on := 15, ground := Ground.data }, { on := 22, ground := Ground.data }], guard := none }) (v := ?_) rfl (by kernel_rfl) (by kernel_rfl) (by kernel_rfl) (fun _ _ _ h => h) (Or.inl ⟨by rfl, ?_⟩) (by assumption) ?_
            rotate_left
            focus (intro w hSw; (try dsimp only at hSw); go_simp; try (with_reducible rfl))
            try simp only [Act.put, List.setIfInBounds_toArray, List.set_cons_zero, List.set_cons_succ]
            refine wpAnyH_take (i := 24) (oi := { dst := some 4, op := Op.assign (Operand.tmp 81), type := 4, pos := "law.go:87", after := #[{ on := 23, ground := Ground.data }, { on := 17, ground := Ground.chain }, { on := 0, ground := Ground.phase }, { on := 1, ground := Ground.phase }, { on := 2, ground := Ground.phase }, { on := 3, ground := Ground.phase }, { on := 4, ground := Ground.phase }, { on := 5, ground := Ground.phase }, { on := 6, ground := Ground.phase }, { on := 7, ground := Ground.phase }, { on := 8, ground := Ground.phase }, { on := 9, ground := Ground.phase }, { on := 10, ground := Ground.phase }, { on := 11, ground := Ground.phase }, { on := 12, ground := Ground.phase }, { on := 13, ground := Ground.phase }, { on := 14, ground := Ground.phase }, { on := 15, ground := Ground.phase }, { on := 16, ground := Ground.phase }, { on := 17, ground := Ground.phase }, { on := 18, ground := Ground.phase }, { on := 19, ground := Ground.phase }, { on := 20, ground := Ground.phase }, { on := 21, ground := Ground.phase }, { on := 22, ground := Ground.phase }, { on := 23, ground := Ground.phase }], guard := none }) (v := ?_) rfl (by kernel_rfl) (by kernel_rfl) (by kernel_rfl) (fun _ _ _ h => h) (Or.inl ⟨by rfl, ?_⟩) (by assumption) ?_
            rotate_left
            focus (intro w hSw; (try dsimp only at hSw); go_simp; try (with_reducible rfl))
            try simp only [Act.put, List.setIfInBounds_toArray, List.set_cons_zero, List.set_cons_succ]
            refine wpAnyH_done (by kernel_rfl) ?_ _
            have HBX := Lib.hid HQ11.out
            go_wp2_with fail
            go_ret
            exact ⟨by first | rfl | simp, HBX.out⟩
      · rw [if_pos (by rfl)]
        go_simp
        have t9 := below_alloc Z9 (.cells #[.int .u8 255, .int .u8 opt, .int .u8 7] 5)
        refine hK.out _ _ (trivial) (fun hHeld => ?_)
        clear hK K
        try simp only [Act.put, List.setIfInBounds_toArray, List.set_cons_zero, List.set_cons_succ]
        have RH10 := Lib.hid ((new3_own Z9 255 opt 7).row)
        have HQ10 := Lib.hid (HQ9.out.below t9)
        have RA10 := Lib.hid (RA9.out.below t9)
        have VA10 := Lib.hid (VA9.out.below t9)
        have RB10 := Lib.hid (RB9.out.below t9)
        have VB10 := Lib.hid (VB9.out.below t9)
        have VC10 := Lib.hid (VC9.out.below t9)
        have VD10 := Lib.hid (VD9.out.below t9)
        have VE10 := Lib.hid (VE9.out.below t9)
        clear HQ9 RA9 VA9 RB9 VB9 VC9 VD9 VE9
        obtain ⟨Z10, hZ⟩ : ∃ Y, Y = Z9.alloc (.cells #[.int .u8 255, .int .u8 opt, .int .u8 7] 5) := ⟨_, rfl⟩
        obtain ⟨gh, hg⟩ : ∃ g, g = Z9.heap.size := ⟨_, rfl⟩
        rw [← hZ] at HQ10 RA10 VA10 RB10 VB10 VC10 VD10 VE10 RH10 ⊢
        rw [← hg] at RH10 ⊢
        clear t9 hZ hg
        refine wpAnyH_ready (rs := [17, 21]) (by kernel_rfl) (by simp) (AllReadyH.cons (o := { dst := some 75, op := Op.call { callee := Callee.value (Operand.func 22), args := #[Operand.tmp 74, Operand.const (Value.int IntKind.u8 7)], argTypes := #[5, 5] }, type := 24, pos := "law.go:87", after := #[{ on := 16, ground := Ground.data }, { on := 15, ground := Ground.chain }, { on := 15, ground := Ground.guard }], guard := some (15, true) }) rfl (fun K hK => ?_) (AllReadyH.cons (o := { dst := some 79, op := Op.convert 24 9 (Operand.tmp 78), type := 9, pos := "law.go:87", after := #[{ on := 20, ground := Ground.data }, { on := 15, ground := Ground.guard }], guard := some (15, true) }) rfl (fun K hK => ?_) AllReadyH.nil))
        · rw [if_pos (by rfl)]
          go_simp
          (go_at_call 22; refine (say_own opt 7 _).mono ?_; rintro e Z11 ⟨pg, rfl, hp, t10⟩)
          go_wp2_with fail
          refine hK.out _ _ (trivial) (fun hHeld => ?_)
          clear hK K
          try simp only [Act.put, List.setIfInBounds_toArray, List.set_cons_zero, List.set_cons_succ]
          have RG11 := Lib.hid (hp.row)
          have HQ11 := Lib.hid (HQ10.out.below t10)
          have RA11 := Lib.hid (RA10.out.below t10)
          have VA11 := Lib.hid (VA10.out.below t10)
          have RB11 := Lib.hid (RB10.out.below t10)
          have VB11 := Lib.hid (VB10.out.below t10)
          have VC11 := Lib.hid (VC10.out.below t10)
          have VD11 := Lib.hid (VD10.out.below t10)
          have VE11 := Lib.hid (VE10.out.below t10)
          have RH11 := Lib.hid (RH10.out.below t10)
          clear HQ10 RA10 VA10 RB10 VB10 VC10 VD10 VE10 RH10
          clear t10
          refine wpAnyH_ready (rs := [18, 21]) (by kernel_rfl) (by simp) (AllReadyH.cons (o := { dst := some 76, op := Op.convert 24 9 (Operand.tmp 75), type := 9, pos := "law.go:87", after := #[{ on := 17, ground := Ground.data }, { on := 15, ground := Ground.guard }], guard := some (15, true) }) rfl (fun K hK => ?_) (AllReadyH.cons (o := { dst := some 79, op := Op.convert 24 9 (Operand.tmp 78), type := 9, pos := "law.go:87", after := #[{ on := 20, ground := Ground.data }, { on := 15, ground := Ground.guard }], guard := some (15, true) }) rfl (fun K hK => ?_) AllReadyH.nil))
          · have hstr := row_str RG11.out
            rw [if_pos (by rfl)]
            go_simp
            refine hK.out _ _ trivial (fun hHeld => ?_)
            clear hK K hstr
            try simp only [Act.put, List.setIfInBounds_toArray, List.set_cons_zero, List.set_cons_succ]
            refine wpAnyH_ready (rs := [21]) (by kernel_rfl) (by simp) (AllReadyH.cons (o := { dst := some 79, op := Op.convert 24 9 (Operand.tmp 78), type := 9, pos := "law.go:87", after := #[{ on := 20, ground := Ground.data }, { on := 15, ground := Ground.guard }], guard := some (15, true) }) rfl (fun K hK => ?_) AllReadyH.nil)
            have hstr := row_str RH11.out
            rw [if_pos (by rfl)]
            go_simp
            refine hK.out _ _ trivial (fun hHeld => ?_)
            clear hK K hstr
            try simp only [Act.put, List.setIfInBounds_toArray, List.set_cons_zero, List.set_cons_succ]
            refine wpAnyH_take (i := 22) (oi := { dst := some 80, op := Op.binOp BinOp.eql 9 (Operand.tmp 76) (Operand.tmp 79) 9, type := 4, pos := "law.go:87", after := #[{ on := 18, ground := Ground.data }, { on := 21, ground := Ground.data }, { on := 15, ground := Ground.guard }], guard := some (15, true) }) (v := ?_) rfl (by kernel_rfl) (by kernel_rfl) (by kernel_rfl) (fun _ _ _ h => h) (Or.inl ⟨by rfl, ?_⟩) (by assumption) ?_
            rotate_left
            focus (intro w hSw; (try dsimp only at hSw); go_simp; try (with_reducible rfl))
            try simp only [Act.put, List.setIfInBounds_toArray, List.set_cons_zero, List.set_cons_succ]
            refine wpAnyH_take (i := 23) (oi := { dst := some 81, op := Op.pick (Operand.tmp 73) (Operand.tmp 80) (Operand.const (Value.bool false)), type := 4, pos := "law.go:87", after := #[{ on := 15, ground := Ground.data }, { on := 22, ground := Ground.data }], guard := none }) (v := ?_) rfl (by kernel_rfl) (by kernel_rfl) (by kernel_rfl) (fun _ _ _ h => h) (Or.inl ⟨by rfl, ?_⟩) (by assumption) ?_
            rotate_left
            focus (intro w hSw; (try dsimp only at hSw); go_simp; try (with_reducible rfl))
            try simp only [Act.put, List.setIfInBounds_toArray, List.set_cons_zero, List.set_cons_succ]
            refine wpAnyH_take (i := 24) (oi := { dst := some 4, op := Op.assign (Operand.tmp 81), type := 4, pos := "law.go:87", after := #[{ on := 23, ground := Ground.data }, { on := 17, ground := Ground.chain }, { on := 0, ground := Ground.phase }, { on := 1, ground := Ground.phase }, { on := 2, ground := Ground.phase }, { on := 3, ground := Ground.phase }, { on := 4, ground := Ground.phase }, { on := 5, ground := Ground.phase }, { on := 6, ground := Ground.phase }, { on := 7, ground := Ground.phase }, { on := 8, ground := Ground.phase }, { on := 9, ground := Ground.phase }, { on := 10, ground := Ground.phase }, { on := 11, ground := Ground.phase }, { on := 12, ground := Ground.phase }, { on := 13, ground := Ground.phase }, { on := 14, ground := Ground.phase }, { on := 15, ground := Ground.phase }, { on := 16, ground := Ground.phase }, { on := 17, ground := Ground.phase }, { on := 18, ground := Ground.phase }, { on := 19, ground := Ground.phase }, { on := 20, ground := Ground.phase }, { on := 21, ground := Ground.phase }, { on := 22, ground := Ground.phase }, { on := 23, ground := Ground.phase }], guard := none }) (v := ?_) rfl (by kernel_rfl) (by kernel_rfl) (by kernel_rfl) (fun _ _ _ h => h) (Or.inl ⟨by rfl, ?_⟩) (by assumption) ?_
            rotate_left
            focus (intro w hSw; (try dsimp only at hSw); go_simp; try (with_reducible rfl))
            try simp only [Act.put, List.setIfInBounds_toArray, List.set_cons_zero, List.set_cons_succ]
            refine wpAnyH_done (by kernel_rfl) ?_ _
            have HBX := Lib.hid HQ11.out
            go_wp2_with fail
            go_ret
            exact ⟨by first | rfl | simp, HBX.out⟩
          · have hstr := row_str RH11.out
            rw [if_pos (by rfl)]
            go_simp
            refine hK.out _ _ trivial (fun hHeld => ?_)
            clear hK K hstr
            try simp only [Act.put, List.setIfInBounds_toArray, List.set_cons_zero, List.set_cons_succ]
            refine wpAnyH_ready (rs := [18]) (by kernel_rfl) (by simp) (AllReadyH.cons (o := { dst := some 76, op := Op.convert 24 9 (Operand.tmp 75), type := 9, pos := "law.go:87", after := #[{ on := 17, ground := Ground.data }, { on := 15, ground := Ground.guard }], guard := some (15, true) }) rfl (fun K hK => ?_) AllReadyH.nil)
            have hstr := row_str RG11.out
            rw [if_pos (by rfl)]
            go_simp
            refine hK.out _ _ trivial (fun hHeld => ?_)
            clear hK K hstr
            try simp only [Act.put, List.setIfInBounds_toArray, List.set_cons_zero, List.set_cons_succ]
            refine wpAnyH_take (i := 22) (oi := { dst := some 80, op := Op.binOp BinOp.eql 9 (Operand.tmp 76) (Operand.tmp 79) 9, type := 4, pos := "law.go:87", after := #[{ on := 18, ground := Ground.data }, { on := 21, ground := Ground.data }, { on := 15, ground := Ground.guard }], guard := some (15, true) }) (v := ?_) rfl (by kernel_rfl) (by kernel_rfl) (by kernel_rfl) (fun _ _ _ h => h) (Or.inl ⟨by rfl, ?_⟩) (by assumption) ?_
            rotate_left
            focus (intro w hSw; (try dsimp only at hSw); go_simp; try (with_reducible rfl))
            try simp only [Act.put, List.setIfInBounds_toArray, List.set_cons_zero, List.set_cons_succ]
            refine wpAnyH_take (i := 23) (oi := { dst := some 81, op := Op.pick (Operand.tmp 73) (Operand.tmp 80) (Operand.const (Value.bool false)), type := 4, pos := "law.go:87", after := #[{ on := 15, ground := Ground.data }, { on := 22, ground := Ground.data }], guard := none }) (v := ?_) rfl (by kernel_rfl) (by kernel_rfl) (by kernel_rfl) (fun _ _ _ h => h) (Or.inl ⟨by rfl, ?_⟩) (by assumption) ?_
            rotate_left
            focus (intro w hSw; (try dsimp only at hSw); go_simp; try (with_reducible rfl))
            try simp only [Act.put, List.setIfInBounds_toArray, List.set_cons_zero, List.set_cons_succ]
            refine wpAnyH_take (i := 24) (oi := { dst := some 4, op := Op.assign (Operand.tmp 81), type := 4, pos := "law.go:87", after := #[{ on := 23, ground := Ground.data }, { on := 17, ground := Ground.chain }, { on := 0, ground := Ground.phase }, { on := 1, ground := Ground.phase }, { on := 2, ground := Ground.phase }, { on := 3, ground := Ground.phase }, { on := 4, ground := Ground.phase }, { on := 5, ground := Ground.phase }, { on := 6, ground := Ground.phase }, { on := 7, ground := Ground.phase }, { on := 8, ground := Ground.phase }, { on := 9, ground := Ground.phase }, { on := 10, ground := Ground.phase }, { on := 11, ground := Ground.phase }, { on := 12, ground := Ground.phase }, { on := 13, ground := Ground.phase }, { on := 14, ground := Ground.phase }, { on := 15, ground := Ground.phase }, { on := 16, ground := Ground.phase }, { on := 17, ground := Ground.phase }, { on := 18, ground := Ground.phase }, { on := 19, ground := Ground.phase }, { on := 20, ground := Ground.phase }, { on := 21, ground := Ground.phase }, { on := 22, ground := Ground.phase }, { on := 23, ground := Ground.phase }], guard := none }) (v := ?_) rfl (by kernel_rfl) (by kernel_rfl) (by kernel_rfl) (fun _ _ _ h => h) (Or.inl ⟨by rfl, ?_⟩) (by assumption) ?_
            rotate_left
            focus (intro w hSw; (try dsimp only at hSw); go_simp; try (with_reducible rfl))
            try simp only [Act.put, List.setIfInBounds_toArray, List.set_cons_zero, List.set_cons_succ]
            refine wpAnyH_done (by kernel_rfl) ?_ _
            have HBX := Lib.hid HQ11.out
            go_wp2_with fail
            go_ret
            exact ⟨by first | rfl | simp, HBX.out⟩
        · have hstr := row_str RH10.out
          rw [if_pos (by rfl)]
          go_simp
          refine hK.out _ _ trivial (fun hHeld => ?_)
          clear hK K hstr
          try simp only [Act.put, List.setIfInBounds_toArray, List.set_cons_zero, List.set_cons_succ]
          refine wpAnyH_ready (rs := [17]) (by kernel_rfl) (by simp) (AllReadyH.cons (o := { dst := some 75, op := Op.call { callee := Callee.value (Operand.func 22), args := #[Operand.tmp 74, Operand.const (Value.int IntKind.u8 7)], argTypes := #[5, 5] }, type := 24, pos := "law.go:87", after := #[{ on := 16, ground := Ground.data }, { on := 15, ground := Ground.chain }, { on := 15, ground := Ground.guard }], guard := some (15, true) }) rfl (fun K hK => ?_) AllReadyH.nil)
          rw [if_pos (by rfl)]
          go_simp
          (go_at_call 22; refine (say_own opt 7 _).mono ?_; rintro e Z11 ⟨pg, rfl, hp, t10⟩)
          go_wp2_with fail
          refine hK.out _ _ (trivial) (fun hHeld => ?_)
          clear hK K
          try simp only [Act.put, List.setIfInBounds_toArray, List.set_cons_zero, List.set_cons_succ]
          have RG11 := Lib.hid (hp.row)
          have HQ11 := Lib.hid (HQ10.out.below t10)
          have RA11 := Lib.hid (RA10.out.below t10)
          have VA11 := Lib.hid (VA10.out.below t10)
          have RB11 := Lib.hid (RB10.out.below t10)
          have VB11 := Lib.hid (VB10.out.below t10)
          have VC11 := Lib.hid (VC10.out.below t10)
          have VD11 := Lib.hid (VD10.out.below t10)
          have VE11 := Lib.hid (VE10.out.below t10)
          have RH11 := Lib.hid (RH10.out.below t10)
          clear HQ10 RA10 VA10 RB10 VB10 VC10 VD10 VE10 RH10
          clear t10
          refine wpAnyH_ready (rs := [18]) (by kernel_rfl) (by simp) (AllReadyH.cons (o := { dst := some 76, op := Op.convert 24 9 (Operand.tmp 75), type := 9, pos := "law.go:87", after := #[{ on := 17, ground := Ground.data }, { on := 15, ground := Ground.guard }], guard := some (15, true) }) rfl (fun K hK => ?_) AllReadyH.nil)
          have hstr := row_str RG11.out
          rw [if_pos (by rfl)]
          go_simp
          refine hK.out _ _ trivial (fun hHeld => ?_)
          clear hK K hstr
          try simp only [Act.put, List.setIfInBounds_toArray, List.set_cons_zero, List.set_cons_succ]
          refine wpAnyH_take (i := 22) (oi := { dst := some 80, op := Op.binOp BinOp.eql 9 (Operand.tmp 76) (Operand.tmp 79) 9, type := 4, pos := "law.go:87", after := #[{ on := 18, ground := Ground.data }, { on := 21, ground := Ground.data }, { on := 15, ground := Ground.guard }], guard := some (15, true) }) (v := ?_) rfl (by kernel_rfl) (by kernel_rfl) (by kernel_rfl) (fun _ _ _ h => h) (Or.inl ⟨by rfl, ?_⟩) (by assumption) ?_
          rotate_left
          focus (intro w hSw; (try dsimp only at hSw); go_simp; try (with_reducible rfl))
          try simp only [Act.put, List.setIfInBounds_toArray, List.set_cons_zero, List.set_cons_succ]
          refine wpAnyH_take (i := 23) (oi := { dst := some 81, op := Op.pick (Operand.tmp 73) (Operand.tmp 80) (Operand.const (Value.bool false)), type := 4, pos := "law.go:87", after := #[{ on := 15, ground := Ground.data }, { on := 22, ground := Ground.data }], guard := none }) (v := ?_) rfl (by kernel_rfl) (by kernel_rfl) (by kernel_rfl) (fun _ _ _ h => h) (Or.inl ⟨by rfl, ?_⟩) (by assumption) ?_
          rotate_left
          focus (intro w hSw; (try dsimp only at hSw); go_simp; try (with_reducible rfl))
          try simp only [Act.put, List.setIfInBounds_toArray, List.set_cons_zero, List.set_cons_succ]
          refine wpAnyH_take (i := 24) (oi := { dst := some 4, op := Op.assign (Operand.tmp 81), type := 4, pos := "law.go:87", after := #[{ on := 23, ground := Ground.data }, { on := 17, ground := Ground.chain }, { on := 0, ground := Ground.phase }, { on := 1, ground := Ground.phase }, { on := 2, ground := Ground.phase }, { on := 3, ground := Ground.phase }, { on := 4, ground := Ground.phase }, { on := 5, ground := Ground.phase }, { on := 6, ground := Ground.phase }, { on := 7, ground := Ground.phase }, { on := 8, ground := Ground.phase }, { on := 9, ground := Ground.phase }, { on := 10, ground := Ground.phase }, { on := 11, ground := Ground.phase }, { on := 12, ground := Ground.phase }, { on := 13, ground := Ground.phase }, { on := 14, ground := Ground.phase }, { on := 15, ground := Ground.phase }, { on := 16, ground := Ground.phase }, { on := 17, ground := Ground.phase }, { on := 18, ground := Ground.phase }, { on := 19, ground := Ground.phase }, { on := 20, ground := Ground.phase }, { on := 21, ground := Ground.phase }, { on := 22, ground := Ground.phase }, { on := 23, ground := Ground.phase }], guard := none }) (v := ?_) rfl (by kernel_rfl) (by kernel_rfl) (by kernel_rfl) (fun _ _ _ h => h) (Or.inl ⟨by rfl, ?_⟩) (by assumption) ?_
          rotate_left
          focus (intro w hSw; (try dsimp only at hSw); go_simp; try (with_reducible rfl))
          try simp only [Act.put, List.setIfInBounds_toArray, List.set_cons_zero, List.set_cons_succ]
          refine wpAnyH_done (by kernel_rfl) ?_ _
          have HBX := Lib.hid HQ11.out
          go_wp2_with fail
          go_ret
          exact ⟨by first | rfl | simp, HBX.out⟩
end Go.Proofs.Ytimidoaafllnkaa.Iac
