/-
  The document's plane: has it a place; the laws' own: the same plane?
-/
import Derived.Test.YtkkcdahfiegopaaDoorPlQ
import Derived.Deep.RegionHeld3
import Derived.Deep.DeepCutAuto
import Derived.Deep.CutRange
namespace Go.Proofs.YtkkcdahfiegopaaDoor.Pl
open Go.RowKit Go.Shelf Base
set_option linter.unusedVariables false
set_option linter.unusedSimpArgs false

theorem rhas_any (r c cur i : Int) (a : Option Addr) (n cap : Nat) (w : World) : Calls Tryd.prog 12 #[xV r c (.slice a n cap) cur, .int .i64 i] w fun e W => e = .returned (.bool (decide (0 ≤ i ∧ i < n))) ∧ Below w.heap.size w W := by
  unfold xV
  have hb := below_alloc w (.cells #[.int .i64 r, .int .i64 c, .slice a n cap, .int .i64 cur] 32)
  have hc := heap_alloc_new w (.cells #[.int .i64 r, .int .i64 c, .slice a n cap, .int .i64 cur] 32)
  obtain ⟨_, _, c2, _⟩ := blk4 hc
  clear hc
  by_cases h0 : 0 ≤ i
  · have h0' : ¬ i < 0 := by omega
    by_cases h1 : i < (n : Int)
    · rw [decide_eq_true ⟨h0, h1⟩]
      go_enter Tryd.func12, Tryd.ntmps12
      go_wp2
      go_ret
      exact ⟨rfl, hb⟩
    · rw [decide_eq_false (fun h => h1 h.2)]
      go_enter Tryd.func12, Tryd.ntmps12
      go_wp2
      go_ret
      exact ⟨ret_bool (by simp <;> omega), hb⟩
  · rw [decide_eq_false (fun h => h0 h.1)]
    have h0' : i < 0 := by omega
    go_enter Tryd.func12, Tryd.ntmps12
    go_wp2
    go_ret
    exact ⟨ret_bool (by simp), hb⟩
/-- What the comparison holds: the document's plane in a box, its row, the plane. -/
structure SQ (s : Nat) (w : World) (r c cur : Int) (b g gx n cap : Nat) (L : List Cl) (W : World) : Prop where
  bx : W.heap[s]? = some (.cells #[.int .i64 r, .int .i64 c, .slice (some ⟨gx, 0, none⟩) n cap, .int .i64 cur] 32 (0, 0))
  p : PlAt W b g r c cur L
  row : W.ownsRow 0 36 5 (.slice (some ⟨gx, 0, none⟩) n cap) n (flatC L)
  old : Below s w W
  len : L.length = n
section
variable {s : Nat} {w W W' : World} {r c cur : Int} {b g gx n cap : Nat} {L : List Cl}
theorem SQ.below (h : SQ s w r c cur b g gx n cap L W) (t : Below W.heap.size W W') : SQ s w r c cur b g gx n cap L W' :=
  ⟨(t.block _ (lt_of_block h.bx)).trans h.bx, h.p.below t, own_below h.row t, h.old.trans (t.mono (Nat.le_of_lt (lt_of_block h.bx))), h.len⟩
theorem SQ.drew (h : SQ s w r c cur b g gx n cap L W) : SQ s w r c cur b g gx n cap L W.drew := ⟨h.bx, h.p.drew, own_keep (W := W) h.row (Nat.le_refl _) rfl, below_drew h.old, h.len⟩
theorem SQ.s4 (h : SQ s w r c cur b g gx n cap L W) : W.cell? ⟨s, 0, none⟩ = some (.int .i64 r) ∧ W.cell? ⟨s, 1, none⟩ = some (.int .i64 c) ∧ W.cell? ⟨s, 2, none⟩ = some (.slice (some ⟨gx, 0, none⟩) n cap) ∧ W.cell? ⟨s, 3, none⟩ = some (.int .i64 cur) ∧ SQ s w r c cur b g gx n cap L W := by
  obtain ⟨a0, a1, a2, a3, _⟩ := blk4 h.bx
  exact ⟨a0, a1, a2, a3, h⟩
theorem SQ.s6 (h : SQ s w r c cur b g gx n cap L W) (k : Nat) (x : Cl) (hx : L[k]? = some x) : W.cell? ⟨s, 2, none⟩ = some (.slice (some ⟨gx, 0, none⟩) n cap) ∧ W.cell? ⟨gx, k * 5, none⟩ = some (.int .u8 x.b) ∧ W.cell? ⟨gx, k * 5 + 1, none⟩ = some (.bool x.ge) ∧ W.cell? ⟨gx, k * 5 + 2, none⟩ = some (.bool x.st) ∧ W.cell? ⟨gx, k * 5 + 3, none⟩ = some (.int .u8 x.li) ∧ W.cell? ⟨gx, k * 5 + 4, none⟩ = some (.int .u8 x.co) ∧ SQ s w r c cur b g gx n cap L W := by
  obtain ⟨_, _, a2, _, _⟩ := blk4 h.bx
  obtain ⟨y0, y1, y2, y3, y4⟩ := flatC_get _ k x hx
  have hk : k < n := by rw [← h.len]; exact (List.getElem?_eq_some_iff.1 hx).1
  exact ⟨a2, (h.row.cellAt (k * 5) (by omega)).trans y0, (h.row.cellAt (k * 5 + 1) (by omega)).trans y1, (h.row.cellAt (k * 5 + 2) (by omega)).trans y2, (h.row.cellAt (k * 5 + 3) (by omega)).trans y3, (h.row.cellAt (k * 5 + 4) (by omega)).trans y4, h⟩
end
set_option maxRecDepth 100000 in
set_option maxHeartbeats 4000000 in
theorem lsame_true {w : World} {r c cur : Int} {b g gx n cap : Nat} {L : List Cl} (hp : PlAt w b g r c cur L) (hr : w.ownsRow 0 36 5 (.slice (some ⟨gx, 0, none⟩) n cap) n (flatC L)) (hl : L.length = n) :
    Calls Tryd.prog 18 #[.pointer (some ⟨b, 0, none⟩), xV r c (.slice (some ⟨gx, 0, none⟩) n cap) cur] w fun e W => e = .returned (.bool true) ∧ Below w.heap.size w W := by
  unfold xV
  obtain ⟨s, hs⟩ : ∃ s, s = w.heap.size := ⟨_, rfl⟩
  obtain ⟨W0, hW0⟩ : ∃ W0, W0 = w.alloc (.cells #[.int .i64 r, .int .i64 c, .slice (some ⟨gx, 0, none⟩) n cap, .int .i64 cur] 32) := ⟨_, rfl⟩
  have HSQ : Hid (SQ s w r c cur b g gx n cap L W0) := by
    rw [hW0, hs]
    exact ⟨heap_alloc_new w _, hp.alloc _, own_below hr (below_alloc _ _), below_alloc _ _, hl⟩
  have HS := Lib.hid hs
  have HW0 := Lib.hid hW0.symm
  have hne := fun w => run_neq_sz w r c r c
  rw [decide_eq_true ⟨rfl, rfl⟩] at hne
  have hnm : n ≤ 4096 := by rw [← hl]; exact hp.most
  have hlenp : Hid (∀ X, SQ s w r c cur b g gx n cap L X → Calls Tryd.prog 20 #[.pointer (some ⟨b, 0, none⟩)] X fun e X' => e = .returned (.int .i64 (n : Nat)) ∧ X = X') := by
    intro X hX
    have := len_any hX.p
    rwa [hl] at this
  have HLL := Lib.hid hl
  clear hp hr hl hW0 hs
  go_enter Tryd.func18, Tryd.ntmps18
  go_wp2_with fail
  rw [HW0.out, ← HS.out]
  go_cut [25] (fun v wx => v = .bool false ∧ SQ s w r c cur b g gx n cap L wx)
  case first =>
    refine wp_region_held_drew (S := fun W => W.cell? ⟨s, 0, none⟩ = some (.int .i64 r) ∧ W.cell? ⟨s, 1, none⟩ = some (.int .i64 c) ∧ W.cell? ⟨s, 2, none⟩ = some (.slice (some ⟨gx, 0, none⟩) n cap) ∧ W.cell? ⟨s, 3, none⟩ = some (.int .i64 cur) ∧ SQ s w r c cur b g gx n cap L W) (by kernel_rfl) (SQ.s4 HSQ.out.drew) (fun hHeld => ?_)
    refine wpAnyH_take (i := 0) (oi := { dst := some 6, op := Op.move (Operand.tmp 0), type := 26, pos := "law.go:38", after := #[], guard := none }) (v := ?_) rfl (by kernel_rfl) (by kernel_rfl) (by kernel_rfl) (fun _ _ _ h => h) (Or.inl ⟨by rfl, ?_⟩) (by assumption) ?_
    rotate_left
    focus (intro w hSw; (try dsimp only at hSw); go_simp; try (with_reducible rfl))
    try simp only [Act.put, List.setIfInBounds_toArray, List.set_cons_zero, List.set_cons_succ]
    refine wpAnyH_take (i := 2) (oi := { dst := some 8, op := Op.fieldAddr 32 (Operand.tmp 3) 1, type := 0, pos := "law.go:38", after := #[], guard := none }) (v := ?_) rfl (by kernel_rfl) (by kernel_rfl) (by kernel_rfl) (fun _ _ _ h => h) (Or.inl ⟨by rfl, ?_⟩) (by assumption) ?_
    rotate_left
    focus (intro w hSw; (try dsimp only at hSw); go_simp; try (with_reducible rfl))
    try simp only [Act.put, List.setIfInBounds_toArray, List.set_cons_zero, List.set_cons_succ]
    refine wpAnyH_take (i := 3) (oi := { dst := some 9, op := Op.load 30 (Operand.tmp 8), type := 30, pos := "law.go:38", after := #[{ on := 2, ground := Ground.data }], guard := none }) (v := ?_) rfl (by kernel_rfl) (by kernel_rfl) (by kernel_rfl) (fun _ _ _ h => h) (Or.inl ⟨by rfl, ?_⟩) (by assumption) ?_
    rotate_left
    focus (intro w hSw; (try dsimp only at hSw); go_simp; try (with_reducible rfl))
    try simp only [Act.put, List.setIfInBounds_toArray, List.set_cons_zero, List.set_cons_succ]
    refine wpAnyH_take (i := 4) (oi := { dst := some 10, op := Op.call { callee := Callee.builtin Builtin.len, args := #[Operand.tmp 9], argTypes := #[30] }, type := 3, pos := "law.go:38", after := #[{ on := 3, ground := Ground.data }], guard := none }) (v := ?_) rfl (by kernel_rfl) (by kernel_rfl) (by kernel_rfl) (fun _ _ _ h => h) (Or.inl ⟨by rfl, ?_⟩) (by assumption) ?_
    rotate_left
    focus (intro w hSw; (try dsimp only at hSw); go_simp; try (with_reducible rfl))
    try simp only [Act.put, List.setIfInBounds_toArray, List.set_cons_zero, List.set_cons_succ]
    refine wpAnyH_ready (rs := [1]) (by kernel_rfl) (by simp) (AllReadyH.cons (o := { dst := some 7, op := Op.call { callee := Callee.value (Operand.func 20), args := #[Operand.tmp 6], argTypes := #[26] }, type := 3, pos := "law.go:38", after := #[{ on := 0, ground := Ground.data }], guard := none }) rfl (fun K hK => ?_) AllReadyH.nil)
    go_simp
    go_at_call 20
    refine (hlenp.out _ HSQ.out.drew).mono ?_
    rintro e w3 ⟨rfl, rfl⟩
    go_wp2_with fail
    refine hK.out _ _ (SQ.s4 HSQ.out.drew) (fun hHeld => ?_)
    clear hK K
    try simp only [Act.put, List.setIfInBounds_toArray, List.set_cons_zero, List.set_cons_succ]
    refine wpAnyH_take (i := 5) (oi := { dst := some 11, op := Op.binOp BinOp.neq 3 (Operand.tmp 7) (Operand.tmp 10) 3, type := 4, pos := "law.go:38", after := #[{ on := 1, ground := Ground.data }, { on := 4, ground := Ground.data }], guard := none }) (v := ?_) rfl (by kernel_rfl) (by kernel_rfl) (by kernel_rfl) (fun _ _ _ h => h) (Or.inl ⟨by rfl, ?_⟩) (by assumption) ?_
    rotate_left
    focus (intro w hSw; (try dsimp only at hSw); go_simp; try (with_reducible rfl))
    try simp only [Act.put, List.setIfInBounds_toArray, List.set_cons_zero, List.set_cons_succ]
    refine wpAnyH_take (i := 6) (oi := { dst := some 12, op := Op.move (Operand.tmp 11), type := 4, pos := "law.go:38", after := #[{ on := 5, ground := Ground.data }, { on := 1, ground := Ground.chain }], guard := none }) (v := ?_) rfl (by kernel_rfl) (by kernel_rfl) (by kernel_rfl) (fun _ _ _ h => h) (Or.inl ⟨by rfl, ?_⟩) (by assumption) ?_
    rotate_left
    focus (intro w hSw; (try dsimp only at hSw); go_simp; try (with_reducible rfl))
    try simp only [Act.put, List.setIfInBounds_toArray, List.set_cons_zero, List.set_cons_succ]
    refine wpAnyH_take (i := 7) (oi := { dst := some 13, op := Op.move (Operand.tmp 0), type := 26, pos := "law.go:38", after := #[{ on := 6, ground := Ground.guard }], guard := some (6, false) }) (v := ?_) rfl (by kernel_rfl) (by kernel_rfl) (by kernel_rfl) (fun _ _ _ h => h) (Or.inl ⟨by rfl, ?_⟩) (by assumption) ?_
    rotate_left
    focus (intro w hSw; (try dsimp only at hSw); go_simp; try (with_reducible rfl))
    try simp only [Act.put, List.setIfInBounds_toArray, List.set_cons_zero, List.set_cons_succ]
    refine wpAnyH_take (i := 9) (oi := { dst := some 15, op := Op.fieldAddr 32 (Operand.tmp 3) 0, type := 0, pos := "law.go:38", after := #[{ on := 6, ground := Ground.guard }], guard := some (6, false) }) (v := ?_) rfl (by kernel_rfl) (by kernel_rfl) (by kernel_rfl) (fun _ _ _ h => h) (Or.inl ⟨by rfl, ?_⟩) (by assumption) ?_
    rotate_left
    focus (intro w hSw; (try dsimp only at hSw); go_simp; try (with_reducible rfl))
    try simp only [Act.put, List.setIfInBounds_toArray, List.set_cons_zero, List.set_cons_succ]
    refine wpAnyH_take (i := 10) (oi := { dst := some 16, op := Op.load 23 (Operand.tmp 15), type := 23, pos := "law.go:38", after := #[{ on := 9, ground := Ground.data }, { on := 6, ground := Ground.guard }], guard := some (6, false) }) (v := ?_) rfl (by kernel_rfl) (by kernel_rfl) (by kernel_rfl) (fun _ _ _ h => h) (Or.inl ⟨by rfl, ?_⟩) (by assumption) ?_
    rotate_left
    focus (intro w hSw; (try dsimp only at hSw); go_simp; try (with_reducible rfl))
    try simp only [Act.put, List.setIfInBounds_toArray, List.set_cons_zero, List.set_cons_succ]
    refine wpAnyH_ready (rs := [8]) (by kernel_rfl) (by simp) (AllReadyH.cons (o := { dst := some 14, op := Op.call { callee := Callee.value (Operand.func 30), args := #[Operand.tmp 13], argTypes := #[26] }, type := 23, pos := "law.go:38", after := #[{ on := 7, ground := Ground.data }, { on := 6, ground := Ground.chain }, { on := 6, ground := Ground.guard }], guard := some (6, false) }) rfl (fun K hK => ?_) AllReadyH.nil)
    go_simp
    go_at_call 30
    refine (size_any (SQ.p HSQ.out.drew)).mono ?_
    rintro e w4 ⟨rfl, hb4⟩
    have HQ2 := Lib.hid (SQ.below HSQ.out.drew hb4)
    clear hb4
    go_wp2_with fail
    refine hK.out _ _ (SQ.s4 HQ2.out) (fun hHeld => ?_)
    clear hK K
    try simp only [Act.put, List.setIfInBounds_toArray, List.set_cons_zero, List.set_cons_succ]
    refine wpAnyH_take (i := 11) (oi := { dst := some 17, op := Op.binOp BinOp.neq 23 (Operand.tmp 14) (Operand.tmp 16) 23, type := 4, pos := "law.go:38", after := #[{ on := 8, ground := Ground.data }, { on := 10, ground := Ground.data }, { on := 6, ground := Ground.guard }], guard := some (6, false) }) (v := ?_) rfl (by kernel_rfl) (by kernel_rfl) (by kernel_rfl) (fun _ _ _ h => h) (Or.inl ⟨by rfl, ?_⟩) (by assumption) ?_
    rotate_left
    focus (intro w hSw; (try dsimp only at hSw); go_simp; try (with_reducible rfl))
    try simp only [Act.put, List.setIfInBounds_toArray, List.set_cons_zero, List.set_cons_succ]
    refine wpAnyH_take (i := 12) (oi := { dst := some 18, op := Op.pick (Operand.tmp 12) (Operand.const (Value.bool true)) (Operand.tmp 17), type := 4, pos := "law.go:38", after := #[{ on := 6, ground := Ground.data }, { on := 11, ground := Ground.data }], guard := none }) (v := ?_) rfl (by kernel_rfl) (by kernel_rfl) (by kernel_rfl) (fun _ _ _ h => h) (Or.inl ⟨by rfl, ?_⟩) (by assumption) ?_
    rotate_left
    focus (intro w hSw; (try dsimp only at hSw); go_simp; try (with_reducible rfl))
    try simp only [Act.put, List.setIfInBounds_toArray, List.set_cons_zero, List.set_cons_succ]
    refine wpAnyH_take (i := 13) (oi := { dst := some 19, op := Op.move (Operand.tmp 18), type := 4, pos := "law.go:38", after := #[{ on := 12, ground := Ground.data }, { on := 8, ground := Ground.chain }], guard := none }) (v := ?_) rfl (by kernel_rfl) (by kernel_rfl) (by kernel_rfl) (fun _ _ _ h => h) (Or.inl ⟨by rfl, ?_⟩) (by assumption) ?_
    rotate_left
    focus (intro w hSw; (try dsimp only at hSw); go_simp; try (with_reducible rfl))
    try simp only [Act.put, List.setIfInBounds_toArray, List.set_cons_zero, List.set_cons_succ]
    refine wpAnyH_take (i := 14) (oi := { dst := some 20, op := Op.move (Operand.tmp 0), type := 26, pos := "law.go:38", after := #[{ on := 13, ground := Ground.guard }], guard := some (13, false) }) (v := ?_) rfl (by kernel_rfl) (by kernel_rfl) (by kernel_rfl) (fun _ _ _ h => h) (Or.inl ⟨by rfl, ?_⟩) (by assumption) ?_
    rotate_left
    focus (intro w hSw; (try dsimp only at hSw); go_simp; try (with_reducible rfl))
    try simp only [Act.put, List.setIfInBounds_toArray, List.set_cons_zero, List.set_cons_succ]
    refine wpAnyH_take (i := 16) (oi := { dst := some 22, op := Op.fieldAddr 32 (Operand.tmp 3) 2, type := 0, pos := "law.go:38", after := #[{ on := 13, ground := Ground.guard }], guard := some (13, false) }) (v := ?_) rfl (by kernel_rfl) (by kernel_rfl) (by kernel_rfl) (fun _ _ _ h => h) (Or.inl ⟨by rfl, ?_⟩) (by assumption) ?_
    rotate_left
    focus (intro w hSw; (try dsimp only at hSw); go_simp; try (with_reducible rfl))
    try simp only [Act.put, List.setIfInBounds_toArray, List.set_cons_zero, List.set_cons_succ]
    refine wpAnyH_take (i := 17) (oi := { dst := some 23, op := Op.load 3 (Operand.tmp 22), type := 3, pos := "law.go:38", after := #[{ on := 16, ground := Ground.data }, { on := 13, ground := Ground.guard }], guard := some (13, false) }) (v := ?_) rfl (by kernel_rfl) (by kernel_rfl) (by kernel_rfl) (fun _ _ _ h => h) (Or.inl ⟨by rfl, ?_⟩) (by assumption) ?_
    rotate_left
    focus (intro w hSw; (try dsimp only at hSw); go_simp; try (with_reducible rfl))
    try simp only [Act.put, List.setIfInBounds_toArray, List.set_cons_zero, List.set_cons_succ]
    refine wpAnyH_ready (rs := [15]) (by kernel_rfl) (by simp) (AllReadyH.cons (o := { dst := some 21, op := Op.call { callee := Callee.value (Operand.func 29), args := #[Operand.tmp 20], argTypes := #[26] }, type := 3, pos := "law.go:38", after := #[{ on := 14, ground := Ground.data }, { on := 13, ground := Ground.chain }, { on := 13, ground := Ground.guard }], guard := some (13, false) }) rfl (fun K hK => ?_) AllReadyH.nil)
    go_simp
    go_at_call 29
    refine (cursor_any (SQ.p HQ2.out)).mono ?_
    rintro e w5 ⟨rfl, rfl⟩
    go_wp2_with fail
    refine hK.out _ _ (SQ.s4 HQ2.out) (fun hHeld => ?_)
    clear hK K
    try simp only [Act.put, List.setIfInBounds_toArray, List.set_cons_zero, List.set_cons_succ]
    refine wpAnyH_take (i := 18) (oi := { dst := some 24, op := Op.binOp BinOp.neq 3 (Operand.tmp 21) (Operand.tmp 23) 3, type := 4, pos := "law.go:38", after := #[{ on := 15, ground := Ground.data }, { on := 17, ground := Ground.data }, { on := 13, ground := Ground.guard }], guard := some (13, false) }) (v := ?_) rfl (by kernel_rfl) (by kernel_rfl) (by kernel_rfl) (fun _ _ _ h => h) (Or.inl ⟨by rfl, ?_⟩) (by assumption) ?_
    rotate_left
    focus (intro w hSw; (try dsimp only at hSw); go_simp; try (with_reducible rfl))
    try simp only [Act.put, List.setIfInBounds_toArray, List.set_cons_zero, List.set_cons_succ]
    refine wpAnyH_take (i := 19) (oi := { dst := some 25, op := Op.pick (Operand.tmp 19) (Operand.const (Value.bool true)) (Operand.tmp 24), type := 4, pos := "law.go:38", after := #[{ on := 13, ground := Ground.data }, { on := 18, ground := Ground.data }], guard := none }) (v := ?_) rfl (by kernel_rfl) (by kernel_rfl) (by kernel_rfl) (fun _ _ _ h => h) (Or.inl ⟨by rfl, ?_⟩) (by assumption) ?_
    rotate_left
    focus (intro w hSw; (try dsimp only at hSw); go_simp; try (with_reducible rfl))
    try simp only [Act.put, List.setIfInBounds_toArray, List.set_cons_zero, List.set_cons_succ]
    refine wpAnyH_done (by kernel_rfl) ?_ _
    go_wp2
    go_meet
    exact ⟨rfl, HQ2.out⟩
  case rest =>
    obtain ⟨rfl, hsq⟩ := hcut
    have HQ3 := Lib.hid hsq
    obtain ⟨_, _, a2, _, _⟩ := hsq.s4
    clear hsq HSQ
    go_wp2_with fail
    clear a2
    go_loopw [29] (fun p wr => ∃ k : Nat, k ≤ n ∧ p = .int .i64 k ∧ SQ s w r c cur b g gx n cap L wr) (fun p _ => n - (intOf p).toNat)
    case atStart => exact ⟨0, Nat.zero_le _, rfl, HQ3.out⟩
    case round =>
      obtain ⟨k, hk, rfl, hsq⟩ := hrel
      have HQ := Lib.hid hsq
      clear hsq HQ3
      by_cases hkn : k < n
      · have hki : (k : Int) < (n : Int) := by omega
        obtain ⟨x, hx⟩ : ∃ x, L[k]? = some x := ⟨_, List.getElem?_eq_getElem (by rw [HLL.out]; exact hkn)⟩
        have HX := Lib.hid hx
        have HAT := Lib.hid (atL_yes hx).symm
        have hne2 := fun w => run_neq_cl w x x
        simp only [decide_true, Bool.not_true] at hne2
        clear hx
        go_wp2_with fail
        refine wp_region_held_drew (S := fun W => W.cell? ⟨s, 2, none⟩ = some (.slice (some ⟨gx, 0, none⟩) n cap) ∧ W.cell? ⟨gx, k * 5, none⟩ = some (.int .u8 x.b) ∧ W.cell? ⟨gx, k * 5 + 1, none⟩ = some (.bool x.ge) ∧ W.cell? ⟨gx, k * 5 + 2, none⟩ = some (.bool x.st) ∧ W.cell? ⟨gx, k * 5 + 3, none⟩ = some (.int .u8 x.li) ∧ W.cell? ⟨gx, k * 5 + 4, none⟩ = some (.int .u8 x.co) ∧ SQ s w r c cur b g gx n cap L W) (by kernel_rfl) (SQ.s6 HQ.out.drew k x HX.out) (fun hHeld => ?_)
        refine wpAnyH_take (i := 0) (oi := { dst := some 32, op := Op.move (Operand.tmp 0), type := 26, pos := "law.go:42", after := #[], guard := none }) (v := ?_) rfl (by kernel_rfl) (by kernel_rfl) (by kernel_rfl) (fun _ _ _ h => h) (Or.inl ⟨by rfl, ?_⟩) (by assumption) ?_
        rotate_left
        focus (intro w hSw; (try dsimp only at hSw); go_simp; try (with_reducible rfl))
        try simp only [Act.put, List.setIfInBounds_toArray, List.set_cons_zero, List.set_cons_succ]
        refine wpAnyH_take (i := 1) (oi := { dst := some 33, op := Op.move (Operand.tmp 5), type := 3, pos := "law.go:42", after := #[], guard := none }) (v := ?_) rfl (by kernel_rfl) (by kernel_rfl) (by kernel_rfl) (fun _ _ _ h => h) (Or.inl ⟨by rfl, ?_⟩) (by assumption) ?_
        rotate_left
        focus (intro w hSw; (try dsimp only at hSw); go_simp; try (with_reducible rfl))
        try simp only [Act.put, List.setIfInBounds_toArray, List.set_cons_zero, List.set_cons_succ]
        refine wpAnyH_take (i := 3) (oi := { dst := some 35, op := Op.fieldAddr 32 (Operand.tmp 3) 1, type := 0, pos := "law.go:42", after := #[], guard := none }) (v := ?_) rfl (by kernel_rfl) (by kernel_rfl) (by kernel_rfl) (fun _ _ _ h => h) (Or.inl ⟨by rfl, ?_⟩) (by assumption) ?_
        rotate_left
        focus (intro w hSw; (try dsimp only at hSw); go_simp; try (with_reducible rfl))
        try simp only [Act.put, List.setIfInBounds_toArray, List.set_cons_zero, List.set_cons_succ]
        refine wpAnyH_take (i := 4) (oi := { dst := some 36, op := Op.load 30 (Operand.tmp 35), type := 30, pos := "law.go:42", after := #[{ on := 3, ground := Ground.data }], guard := none }) (v := ?_) rfl (by kernel_rfl) (by kernel_rfl) (by kernel_rfl) (fun _ _ _ h => h) (Or.inl ⟨by rfl, ?_⟩) (by assumption) ?_
        rotate_left
        focus (intro w hSw; (try dsimp only at hSw); go_simp; try (with_reducible rfl))
        try simp only [Act.put, List.setIfInBounds_toArray, List.set_cons_zero, List.set_cons_succ]
        refine wpAnyH_take (i := 5) (oi := { dst := some 37, op := Op.move (Operand.tmp 5), type := 3, pos := "law.go:42", after := #[], guard := none }) (v := ?_) rfl (by kernel_rfl) (by kernel_rfl) (by kernel_rfl) (fun _ _ _ h => h) (Or.inl ⟨by rfl, ?_⟩) (by assumption) ?_
        rotate_left
        focus (intro w hSw; (try dsimp only at hSw); go_simp; try (with_reducible rfl))
        try simp only [Act.put, List.setIfInBounds_toArray, List.set_cons_zero, List.set_cons_succ]
        refine wpAnyH_take (i := 6) (oi := { dst := some 38, op := Op.indexAddr 30 (Operand.tmp 36) (Operand.tmp 37), type := 0, pos := "law.go:42", after := #[{ on := 4, ground := Ground.data }, { on := 5, ground := Ground.data }], guard := none }) (v := ?_) rfl (by kernel_rfl) (by kernel_rfl) (by kernel_rfl) (fun _ _ _ h => h) (Or.inl ⟨by rfl, ?_⟩) (by assumption) ?_
        rotate_left
        focus (intro w hSw; (try dsimp only at hSw); go_simp; try (with_reducible rfl))
        try simp only [Act.put, List.setIfInBounds_toArray, List.set_cons_zero, List.set_cons_succ]
        refine wpAnyH_take (i := 7) (oi := { dst := some 39, op := Op.load 36 (Operand.tmp 38), type := 36, pos := "law.go:42", after := #[{ on := 6, ground := Ground.data }], guard := none }) (v := ?_) rfl (by kernel_rfl) (by kernel_rfl) (by kernel_rfl) (fun _ _ _ h => h) (Or.inl ⟨by rfl, ?_⟩) (by assumption) ?_
        rotate_left
        focus (intro w hSw; (try dsimp only at hSw); go_simp; try (with_reducible rfl))
        try simp only [Act.put, List.setIfInBounds_toArray, List.set_cons_zero, List.set_cons_succ]
        refine wpAnyH_ready (rs := [2]) (by kernel_rfl) (by simp) (AllReadyH.cons (o := { dst := some 34, op := Op.call { callee := Callee.value (Operand.func 19), args := #[Operand.tmp 32, Operand.tmp 33], argTypes := #[26, 3] }, type := 36, pos := "law.go:42", after := #[{ on := 0, ground := Ground.data }, { on := 1, ground := Ground.data }], guard := none }) rfl (fun K hK => ?_) AllReadyH.nil)
        go_simp
        go_at_call 19
        refine (at_is (SQ.p HQ.out.drew) HAT.out).mono ?_
        rintro e w6 ⟨rfl, hb6⟩
        have HQ1 := Lib.hid (SQ.below HQ.out.drew hb6)
        clear hb6
        go_wp2_with fail
        refine hK.out _ _ (SQ.s6 HQ1.out k x HX.out) (fun hHeld => ?_)
        clear hK K
        try simp only [Act.put, List.setIfInBounds_toArray, List.set_cons_zero, List.set_cons_succ]
        refine wpAnyH_take (i := 8) (oi := { dst := some 40, op := Op.binOp BinOp.neq 36 (Operand.tmp 34) (Operand.tmp 39) 36, type := 4, pos := "law.go:42", after := #[{ on := 2, ground := Ground.data }, { on := 7, ground := Ground.data }], guard := none }) (v := ?_) rfl (by kernel_rfl) (by kernel_rfl) (by kernel_rfl) (fun _ _ _ h => h) (Or.inl ⟨by rfl, ?_⟩) (by assumption) ?_
        rotate_left
        focus (intro w hSw; (try dsimp only at hSw); go_simp; try (with_reducible rfl))
        try simp only [Act.put, List.setIfInBounds_toArray, List.set_cons_zero, List.set_cons_succ]
        refine wpAnyH_done (by kernel_rfl) ?_ _
        go_wp2
        go_roundw
        case rel => exact ⟨k + 1, by omega, by go_num, HQ1.out⟩
        case measure => simp [intOf]; omega
      · obtain rfl : k = n := by omega
        go_wp2
        go_ret
        rw [← HS.out]
        exact ⟨rfl, HQ.out.old⟩
end Go.Proofs.YtkkcdahfiegopaaDoor.Pl
