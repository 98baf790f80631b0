/-
  The brush: signs laid one behind the other.
-/
import Derived.Test.YtglkjcdbffkbcaaPaC
namespace Go.Proofs.Ytglkjcdbffkbcaa.Pl
open Go.RowKit Go.Shelf Base
set_option linter.unusedVariables false
set_option linter.unusedSimpArgs false

theorem data_snoc (B : Bs) (d : List Int) (y : Int) : B.data (d ++ [y]) = (B.data d).lay ((B.data d).chr y false) := by
  unfold Bs.data; rw [List.foldl_append]; rfl
theorem data_take (B : Bs) (d : List Int) (k : Nat) (hk : k < d.length) : B.data (d.take (k + 1)) = (B.data (d.take k)).lay ((B.data (d.take k)).chr (d[k]?.getD 0) false) := by
  rw [List.take_succ_eq_append_getElem hk, data_snoc, List.getElem?_eq_getElem hk]; rfl
theorem BoQ.s2 {W0 W : World} {s b g : Nat} {r c : Int} {B : Bs} {o : Or} {vp vd : Value} (h : BoQ W0 s b g r c B o vp vd W) : W.cell? ⟨s, 0, none⟩ = some (.pointer (some ⟨b, 0, none⟩)) ∧ W.cell? ⟨s, 1, none⟩ = some (.int .i64 B.p) ∧ BoQ W0 s b g r c B o vp vd W :=
  ⟨h.br.cells.1, h.br.cells.2.1, h⟩
theorem five_of {W : World} {q : Nat} {x0 x1 x2 x3 x4 : Value} {t : TypeId} (h : W.heap[q]? = some (.cells #[x0, x1, x2, x3, x4] t (0, 0))) : W.cell? ⟨q, 0, none⟩ = some x0 ∧ W.cell? ⟨q, 1, none⟩ = some x1 ∧ W.cell? ⟨q, 2, none⟩ = some x2 ∧ W.cell? ⟨q, 3, none⟩ = some x3 ∧ W.cell? ⟨q, 4, none⟩ = some x4 ∧ ∀ o, W.frozen? ⟨q, o, none⟩ = false :=
  ⟨by simp [World.cell?, h], by simp [World.cell?, h], by simp [World.cell?, h], by simp [World.cell?, h], by simp [World.cell?, h], fun o => by simp [World.frozen?, h]⟩
theorem BoQ.put5 {W0 W : World} {s b g : Nat} {r c : Int} {B : Bs} {o : Or} {vp vd : Value} (h : BoQ W0 s b g r c B o vp vd W) {q : Nat} {cs : Array Value} {fz : Nat × Nat} (hq : W.heap[q]? = some (.cells cs 45 fz)) (hl : W0.heap.size < q) (x0 x1 x2 x3 x4 : Value) :
    BoQ W0 s b g r c B o vp vd (((((W.setCell ⟨q, 0, none⟩ x0).setCell ⟨q, 1, none⟩ x1).setCell ⟨q, 2, none⟩ x2).setCell ⟨q, 3, none⟩ x3).setCell ⟨q, 4, none⟩ x4) := by
  have t := turn5 W q 0 1 2 3 4 x0 x1 x2 x3 x4
  have h1 := h.ls
  have h2 := h.lb
  have h3 := h.lg
  have t2 : Turn (BrS s b g) W0 (((((W.setCell ⟨q, 0, none⟩ x0).setCell ⟨q, 1, none⟩ x1).setCell ⟨q, 2, none⟩ x2).setCell ⟨q, 3, none⟩ x3).setCell ⟨q, 4, none⟩ x4) :=
    ⟨t.os.trans h.tn.os, t.tape.trans h.tn.tape, t.output.trans h.tn.output, Nat.le_trans h.tn.size t.size, fun k hk hS => (t.block k (Nat.lt_of_lt_of_le hk h.tn.size) (by unfold At; omega)).trans (h.tn.block k hk hS)⟩
  exact ⟨⟨h.br.pl.turn t (by unfold At; omega) (by unfold At; omega), (t.block s h.br.lt (by unfold At; omega)).trans h.br.bx, h.br.p0, h.br.p1⟩, (t.block _ (lt_of_block h.ob) (by unfold At; omega)).trans h.ob, t2, h1, h2, h3⟩
theorem BoQ.al {W0 W : World} {s b g : Nat} {r c : Int} {B : Bs} {o : Or} {vp vd : Value} (h : BoQ W0 s b g r c B o vp vd W) (x : Obj) : BoQ W0 s b g r c B o vp vd (W.alloc x) := h.below (below_alloc _ _)
section
variable {W : World} {s b g : Nat} {r c : Int} {B : Bs}
set_option maxRecDepth 100000 in
set_option maxHeartbeats 4000000 in
theorem brData_any (h : BrAt W s b g r c B) (o : Or) (vp vd : Value) (hd : RowIn (fun k => ¬ BrS s b g k) .u8 W vd o.data) (hl : o.data.length ≤ maxLen) : Calls Try.prog 123 #[.pointer (some ⟨s, 0, none⟩), .agg (OV o vp vd)] W (OQ W s b g r c (B.data o.data, 0)) := by
  have h0 := BoQ.begin h o vp vd
  obtain ⟨W0, hW0⟩ : ∃ W0, W0 = W.alloc (.cells #[.int .u8 o.kind, .int .i64 o.addr, .int .u8 o.byte, .bool o.ge, vp, vd] 73) := ⟨_, rfl⟩
  rw [← hW0] at h0
  have HR := Lib.hid hd
  obtain ⟨a, cap, hvd, hin⟩ := hd
  obtain ⟨n, hn⟩ : ∃ n, n = o.data.length := ⟨_, rfl⟩
  rw [← hn] at hvd hl
  subst hvd
  obtain ⟨o0, o1, o2, o3, o4, o5⟩ := h0.oc
  have H0 := Lib.hid (show BoQ W s b g r c (B.data (o.data.take 0)) o vp (.slice a n cap) W0 from h0)
  have HW := Lib.hid hW0.symm
  have HN := Lib.hid hn
  unfold maxLen at hl
  clear h h0 hW0 hn hin
  go_enter Try.func123, Try.ntmps123
  go_wp2_with fail
  rw [HW.out]
  go_wp2_with fail
  go_loopw [10] (fun p wr => ∃ k : Nat, p = .int .i64 k ∧ k ≤ n ∧ BoQ W s b g r c (B.data (o.data.take k)) o vp (.slice a n cap) wr) (fun p _ => n - (intOf p).toNat)
  case atStart => exact ⟨0, rfl, Nat.zero_le _, H0.out⟩
  case round =>
    obtain ⟨k, rfl, hk, hq⟩ := hrel
    have HQ := Lib.hid hq
    clear H0
    by_cases hk1 : k < n
    · have hki : (k : Int) < (n : Int) := by omega
      obtain ⟨a1, cap1, e1, hin⟩ := HR.out.turn hq.tn (fun _ h => h)
      injection e1 with e2 e3 e4
      subst e2
      obtain ⟨tb, toff, e5, _, _, hc⟩ := hin (by intro e; rw [e, List.length_nil] at e3; omega)
      subst e5
      have hcy := hc k (by rw [← HN.out]; exact hk1)
      obtain ⟨y, hy⟩ : ∃ y, y = o.data[k]?.getD 0 := ⟨_, rfl⟩
      rw [← hy] at hcy
      have HY := Lib.hid hy
      clear hq hin hc e3 e4 hy
      go_wp2_with (first
        | (go_at_call 144; refine (sign_any HQ.out.br y false).mono ?_; rintro e w1 ⟨rfl, hb1⟩; rw [chr_val]; have H1 := Lib.hid (HQ.out.below hb1); clear hb1)
        | (go_at_call 143; refine (lay_any H1.out.br ((B.data (o.data.take k)).chr y false)).mono ?_; rintro e w2 ⟨⟨v, rfl⟩, h2, t2⟩; have H2 := Lib.hid (H1.out.step h2 t2); clear h2 t2))
      refine ⟨⟨k + 1, by go_num, by omega, ?_⟩, by simp [intOf]; omega⟩
      rw [data_take B o.data k (by rw [← HN.out]; exact hk1), ← HY.out]
      exact H2.out
    · obtain rfl : n = k := by omega
      have hki : ¬ (n : Int) < (n : Int) := by omega
      clear hq
      go_wp2
      go_ret
      have h2 := HQ.out
      rw [HN.out, List.take_length] at h2
      exact ⟨rfl, h2.br, h2.tn⟩
set_option maxRecDepth 100000 in
set_option maxHeartbeats 4000000 in
theorem modify_any' (h : BrAt W s b g r c B) (o : Or) (vp vd : Value) (hpr : PrAt W vp o.pairs) (hpl : o.pairs.length ≤ maxLen) (hpb : ∀ p ∈ o.pairs, Byte2o p) : Calls Try.prog 132 #[.pointer (some ⟨s, 0, none⟩), .agg (OV o vp vd)] W (OQ W s b g r c (if (atL B.M B.p).st then (B.lay (dressP (atL B.M B.p) o.pairs), 0) else (B, 31))) := by
  have h0 := BoQ.begin h o vp vd
  have hp0 := below_alloc W (.cells #[.int .u8 o.kind, .int .i64 o.addr, .int .u8 o.byte, .bool o.ge, vp, vd] 73)
  have hz0 := World.size_alloc W (.cells #[.int .u8 o.kind, .int .i64 o.addr, .int .u8 o.byte, .bool o.ge, vp, vd] 73)
  obtain ⟨W0, hW0⟩ : ∃ W0, W0 = W.alloc (.cells #[.int .u8 o.kind, .int .i64 o.addr, .int .u8 o.byte, .bool o.ge, vp, vd] 73) := ⟨_, rfl⟩
  rw [← hW0] at h0 hp0 hz0
  obtain ⟨x, hx⟩ : ∃ x, x = atL B.M B.p := ⟨_, rfl⟩
  have H0 := Lib.hid h0
  have HP0 := Lib.hid hp0
  have HW := Lib.hid hW0.symm
  have HX := Lib.hid hx
  rw [← hx]
  obtain ⟨R, hR⟩ : ∃ R, R = (if x.st then (B.lay (dressP x o.pairs), (0 : Int)) else (B, 31)) := ⟨_, rfl⟩
  rw [← hR]
  have HR := Lib.hid hR
  have HPR := Lib.hid hpr
  have HZ0 := Lib.hid hz0
  clear h h0 hW0 hp0 hpr hx hz0 hR
  go_enter Try.func132, Try.ntmps132
  go_upto_region 1 with fail
  rw [HW.out]
  go_cut [5] (fun u5 wx => ∃ q, u5 = .pointer (some ⟨q, 0, none⟩) ∧ BoQ W s b g r c B o vp vd wx ∧ Below W.heap.size W wx ∧ wx.heap[q]? = some (.cells x.arr 45 (0, 0)))
  case first =>
    --TREE
    refine wp_region_held_drew (S := fun X => X.cell? ⟨s, 0, none⟩ = some (.pointer (some ⟨b, 0, none⟩)) ∧ X.cell? ⟨s, 1, none⟩ = some (.int .i64 B.p)) (by kernel_rfl) ⟨H0.out.drew.s2.1, H0.out.drew.s2.2.1⟩ (fun hHeld => ?_)
    refine wpAnyH_take (i := 0) (oi := { dst := some 6, op := Op.move (Operand.tmp 0), type := 148, pos := "paint.go:130", after := #[], guard := none }) (v := ?_) rfl (by kernel_rfl) (by kernel_rfl) (by kernel_rfl) (fun _ _ _ h => h) (Or.inl ⟨by rfl, ?_⟩) (by assumption) ?_
    rotate_left
    focus (intro w hSw; (try dsimp only at hSw); go_simp; try (with_reducible rfl))
    try simp only [Act.put, List.setIfInBounds_toArray, List.set_cons_zero, List.set_cons_succ]
    refine wpAnyH_take (i := 1) (oi := { dst := some 7, op := Op.nilCheck (Operand.tmp 6), type := 0, pos := "paint.go:130", after := #[{ on := 0, ground := Ground.data }], guard := none }) (v := ?_) rfl (by kernel_rfl) (by kernel_rfl) (by kernel_rfl) (fun _ _ _ h => h) (Or.inl ⟨by rfl, ?_⟩) (by assumption) ?_
    rotate_left
    focus (intro w hSw; (try dsimp only at hSw); go_simp; try (with_reducible rfl))
    try simp only [Act.put, List.setIfInBounds_toArray, List.set_cons_zero, List.set_cons_succ]
    refine wpAnyH_take (i := 2) (oi := { dst := some 8, op := Op.fieldAddr 117 (Operand.tmp 7) 0, type := 0, pos := "paint.go:130", after := #[{ on := 1, ground := Ground.data }], guard := none }) (v := ?_) rfl (by kernel_rfl) (by kernel_rfl) (by kernel_rfl) (fun _ _ _ h => h) (Or.inl ⟨by rfl, ?_⟩) (by assumption) ?_
    rotate_left
    focus (intro w hSw; (try dsimp only at hSw); go_simp; try (with_reducible rfl))
    try simp only [Act.put, List.setIfInBounds_toArray, List.set_cons_zero, List.set_cons_succ]
    refine wpAnyH_take (i := 3) (oi := { dst := some 9, op := Op.load 26 (Operand.tmp 8), type := 26, pos := "paint.go:130", after := #[{ on := 2, ground := Ground.data }], guard := none }) (v := ?_) rfl (by kernel_rfl) (by kernel_rfl) (by kernel_rfl) (fun _ _ _ h => h) (Or.inl ⟨by rfl, ?_⟩) (by assumption) ?_
    rotate_left
    focus (intro w hSw; (try dsimp only at hSw); go_simp; try (with_reducible rfl))
    try simp only [Act.put, List.setIfInBounds_toArray, List.set_cons_zero, List.set_cons_succ]
    refine wpAnyH_take (i := 4) (oi := { dst := some 10, op := Op.move (Operand.tmp 0), type := 148, pos := "paint.go:130", after := #[], guard := none }) (v := ?_) rfl (by kernel_rfl) (by kernel_rfl) (by kernel_rfl) (fun _ _ _ h => h) (Or.inl ⟨by rfl, ?_⟩) (by assumption) ?_
    rotate_left
    focus (intro w hSw; (try dsimp only at hSw); go_simp; try (with_reducible rfl))
    try simp only [Act.put, List.setIfInBounds_toArray, List.set_cons_zero, List.set_cons_succ]
    refine wpAnyH_take (i := 5) (oi := { dst := some 11, op := Op.nilCheck (Operand.tmp 10), type := 0, pos := "paint.go:130", after := #[{ on := 4, ground := Ground.data }], guard := none }) (v := ?_) rfl (by kernel_rfl) (by kernel_rfl) (by kernel_rfl) (fun _ _ _ h => h) (Or.inl ⟨by rfl, ?_⟩) (by assumption) ?_
    rotate_left
    focus (intro w hSw; (try dsimp only at hSw); go_simp; try (with_reducible rfl))
    try simp only [Act.put, List.setIfInBounds_toArray, List.set_cons_zero, List.set_cons_succ]
    refine wpAnyH_take (i := 6) (oi := { dst := some 12, op := Op.fieldAddr 117 (Operand.tmp 11) 1, type := 0, pos := "paint.go:130", after := #[{ on := 5, ground := Ground.data }], guard := none }) (v := ?_) rfl (by kernel_rfl) (by kernel_rfl) (by kernel_rfl) (fun _ _ _ h => h) (Or.inl ⟨by rfl, ?_⟩) (by assumption) ?_
    rotate_left
    focus (intro w hSw; (try dsimp only at hSw); go_simp; try (with_reducible rfl))
    try simp only [Act.put, List.setIfInBounds_toArray, List.set_cons_zero, List.set_cons_succ]
    refine wpAnyH_take (i := 7) (oi := { dst := some 13, op := Op.load 3 (Operand.tmp 12), type := 3, pos := "paint.go:130", after := #[{ on := 6, ground := Ground.data }], guard := none }) (v := ?_) rfl (by kernel_rfl) (by kernel_rfl) (by kernel_rfl) (fun _ _ _ h => h) (Or.inl ⟨by rfl, ?_⟩) (by assumption) ?_
    rotate_left
    focus (intro w hSw; (try dsimp only at hSw); go_simp; try (with_reducible rfl))
    try simp only [Act.put, List.setIfInBounds_toArray, List.set_cons_zero, List.set_cons_succ]
    refine wpAnyH_ready (rs := [8, 9]) (by kernel_rfl) (by simp) (AllReadyH.cons (o := { dst := some 14, op := Op.call { callee := Callee.value (Operand.func 40), args := #[Operand.tmp 9, Operand.tmp 13], argTypes := #[26, 3] }, type := 45, pos := "paint.go:130", after := #[{ on := 3, ground := Ground.data }, { on := 7, ground := Ground.data }], guard := none }) rfl (fun K hK => ?_) (AllReadyH.cons (o := { dst := some 5, op := Op.alloc 45, type := 0, pos := "paint.go:130", after := #[], guard := none }) rfl (fun K hK => ?_) AllReadyH.nil))
    · go_simp
      go_at_call 40
      refine (at_is (BoQ.br (H0.out.drew)).pl HX.out).mono ?_
      rintro e w2 ⟨rfl, hb2⟩
      have K2 := Lib.hid (BoQ.below (H0.out.drew) hb2)
      have KP2 := Lib.hid ((below_drew HP0.out).trans (hb2.mono (below_drew HP0.out).size))
      clear hb2
      go_wp2_with fail
      refine hK.out _ _ (⟨K2.out.s2.1, K2.out.s2.2.1⟩) (fun hHeld => ?_)
      clear hK K
      try simp only [Act.put, List.setIfInBounds_toArray, List.set_cons_zero, List.set_cons_succ]
      refine wpAnyH_ready (rs := [9]) (by kernel_rfl) (by simp) (AllReadyH.cons (o := { dst := some 5, op := Op.alloc 45, type := 0, pos := "paint.go:130", after := #[], guard := none }) rfl (fun K hK => ?_) AllReadyH.nil)
      go_simp
      have K3 := Lib.hid (K2.out.al (.cells #[.int .u8 0, .bool false, .bool false, .int .u8 0, .int .u8 0] 45))
      (try go_wp2_with fail)
      refine hK.out _ _ (⟨K3.out.s2.1, K3.out.s2.2.1⟩) (fun hHeld => ?_)
      clear hK K
      try simp only [Act.put, List.setIfInBounds_toArray, List.set_cons_zero, List.set_cons_succ]
      refine wpAnyH_ready (rs := [10]) (by kernel_rfl) (by simp) (AllReadyH.cons (o := { dst := none, op := Op.store 45 (Operand.tmp 5) (Operand.tmp 14), type := 0, pos := "paint.go:130", after := #[{ on := 9, ground := Ground.data }, { on := 8, ground := Ground.data }, { on := 8, ground := Ground.chain }, { on := 0, ground := Ground.phase }, { on := 1, ground := Ground.phase }, { on := 2, ground := Ground.phase }, { on := 3, ground := Ground.phase }, { on := 4, ground := Ground.phase }, { on := 5, ground := Ground.phase }, { on := 6, ground := Ground.phase }, { on := 7, ground := Ground.phase }, { on := 8, ground := Ground.phase }, { on := 9, ground := Ground.phase }], guard := none }) rfl (fun K hK => ?_) AllReadyH.nil)
      go_simp
      have K4 := Lib.hid (K2.out.al (.cells #[.int .u8 x.b, .bool x.ge, .bool x.st, .int .u8 x.li, .int .u8 x.co] 45))
      have KP4 := Lib.hid (KP2.out.trans ((below_alloc w2 (.cells #[.int .u8 x.b, .bool x.ge, .bool x.st, .int .u8 x.li, .int .u8 x.co] 45)).mono KP2.out.size))
      go_wp2_with fail
      refine hK.out _ _ (⟨K4.out.s2.1, K4.out.s2.2.1⟩) (fun hHeld => ?_)
      clear hK K
      try simp only [Act.put, List.setIfInBounds_toArray, List.set_cons_zero, List.set_cons_succ]
      refine wpAnyH_done (by kernel_rfl) ?_ _
      go_wp2_with fail
      go_meet
      case rel => exact ⟨w2.heap.size, rfl, K4.out, KP4.out, heap_alloc_new w2 _⟩
    · go_simp
      have K3 := Lib.hid (BoQ.drew (H0.out.al (.cells #[.int .u8 0, .bool false, .bool false, .int .u8 0, .int .u8 0] 45)))
      have KP3 := Lib.hid (below_drew (HP0.out.trans ((below_alloc W0 (.cells #[.int .u8 0, .bool false, .bool false, .int .u8 0, .int .u8 0] 45)).mono HP0.out.size)))
      have n3 : (W0.alloc (.cells #[.int .u8 0, .bool false, .bool false, .int .u8 0, .int .u8 0] 45)).drew.heap[W0.heap.size]? = some (.cells #[.int .u8 0, .bool false, .bool false, .int .u8 0, .int .u8 0] 45 (0, 0)) := heap_alloc_new W0 _
      (try go_wp2_with fail)
      refine hK.out _ _ (⟨K3.out.s2.1, K3.out.s2.2.1⟩) (fun hHeld => ?_)
      clear hK K
      try simp only [Act.put, List.setIfInBounds_toArray, List.set_cons_zero, List.set_cons_succ]
      refine wpAnyH_ready (rs := [8]) (by kernel_rfl) (by simp) (AllReadyH.cons (o := { dst := some 14, op := Op.call { callee := Callee.value (Operand.func 40), args := #[Operand.tmp 9, Operand.tmp 13], argTypes := #[26, 3] }, type := 45, pos := "paint.go:130", after := #[{ on := 3, ground := Ground.data }, { on := 7, ground := Ground.data }], guard := none }) rfl (fun K hK => ?_) AllReadyH.nil)
      go_simp
      go_at_call 40
      refine (at_is (BoQ.br (K3.out)).pl HX.out).mono ?_
      rintro e w2 ⟨rfl, hb2⟩
      have K2 := Lib.hid (BoQ.below (K3.out) hb2)
      have KP2 := Lib.hid ((KP3.out).trans (hb2.mono (KP3.out).size))
      have n2 := (hb2.block _ (lt_of_block n3)).trans n3
      obtain ⟨z0, z1, z2, z3, z4, zf⟩ := five_of n2
      clear hb2
      go_wp2_with fail
      refine hK.out _ _ (⟨K2.out.s2.1, K2.out.s2.2.1⟩) (fun hHeld => ?_)
      clear hK K
      try simp only [Act.put, List.setIfInBounds_toArray, List.set_cons_zero, List.set_cons_succ]
      refine wpAnyH_ready (rs := [10]) (by kernel_rfl) (by simp) (AllReadyH.cons (o := { dst := none, op := Op.store 45 (Operand.tmp 5) (Operand.tmp 14), type := 0, pos := "paint.go:130", after := #[{ on := 9, ground := Ground.data }, { on := 8, ground := Ground.data }, { on := 8, ground := Ground.chain }, { on := 0, ground := Ground.phase }, { on := 1, ground := Ground.phase }, { on := 2, ground := Ground.phase }, { on := 3, ground := Ground.phase }, { on := 4, ground := Ground.phase }, { on := 5, ground := Ground.phase }, { on := 6, ground := Ground.phase }, { on := 7, ground := Ground.phase }, { on := 8, ground := Ground.phase }, { on := 9, ground := Ground.phase }], guard := none }) rfl (fun K hK => ?_) AllReadyH.nil)
      go_simp
      have K4 := Lib.hid (K2.out.put5 n2 (by have := HZ0.out; omega) (.int .u8 x.b) (.bool x.ge) (.bool x.st) (.int .u8 x.li) (.int .u8 x.co))
      have KP4 := Lib.hid (KP2.out.trans ((turn5 w2 W0.heap.size 0 1 2 3 4 (.int .u8 x.b) (.bool x.ge) (.bool x.st) (.int .u8 x.li) (.int .u8 x.co)).at_below KP2.out.size (by have := HZ0.out; omega)))
      go_wp2_with fail
      refine hK.out _ _ (⟨K4.out.s2.1, K4.out.s2.2.1⟩) (fun hHeld => ?_)
      clear hK K
      try simp only [Act.put, List.setIfInBounds_toArray, List.set_cons_zero, List.set_cons_succ]
      refine wpAnyH_done (by kernel_rfl) ?_ _
      go_wp2_with fail
      go_meet
      case rel => exact ⟨W0.heap.size, rfl, K4.out, KP4.out, put5_blk n2 rfl _ _ _ _ _⟩
    --ENDTREE
  case rest =>
    obtain ⟨q, rfl, hq, hbl, hb⟩ := hcut
    have HQ := Lib.hid hq
    have HB := Lib.hid hb
    have HP := Lib.hid (HPR.out.below hbl)
    obtain ⟨z0, z1, z2, z3, z4, zf⟩ := five_of hb
    obtain ⟨o0, o1, o2, o3, o4, o5⟩ := hq.oc
    have HD := Lib.hid (dress_is x HP.out hpl hpb)
    clear hq hb hbl
    cases hst : x.st with
    | false =>
      rw [hst] at z2
      have hr : R = (B, 31) := by rw [HR.out, hst]; rfl
      subst hr
      clear hst
      go_wp2_with fail
      go_ret
      exact ⟨rfl, HQ.out.br, HQ.out.tn⟩
    | true =>
      rw [hst] at z2
      have hr : R = (B.lay (dressP x o.pairs), 0) := by rw [HR.out, hst]; rfl
      subst hr
      have HST := Lib.hid hst
      clear hst
      go_wp2_with (first
        | (go_at_call 146; go_loud (have hdd := HD.out; simp only [Cl.val] at hdd; rw [HST.out] at hdd; refine hdd.mono ?_; clear hdd; rintro e w3 ⟨rfl, hb3⟩; have H3 := Lib.hid (HQ.out.below hb3); clear hb3))
        | (go_at_call 143; go_loud (refine (lay_any H3.out.br (dressP x o.pairs)).mono ?_; rintro e w4 ⟨⟨v, rfl⟩, h4, t4⟩; have H4 := Lib.hid (H3.out.step h4 t4); clear h4 t4)))
      go_ret
      exact ⟨rfl, H4.out.br, H4.out.tn⟩
end
end Go.Proofs.Ytglkjcdbffkbcaa.Pl
