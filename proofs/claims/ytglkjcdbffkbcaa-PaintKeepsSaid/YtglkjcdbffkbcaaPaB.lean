/-
  The brush: a sign's cell; a cell laid at the place.
-/
import Derived.Test.YtglkjcdbffkbcaaPaA
import Derived.BigQuiet
namespace Go.Proofs.Ytglkjcdbffkbcaa.Pl
open Go.RowKit Go.Shelf Base
set_option linter.unusedVariables false
set_option linter.unusedSimpArgs false

theorem put5_far (W : World) (g s : Nat) (hne : s ≠ g) (x0 x1 x2 x3 x4 : Value) (o : Nat) (v : Value) (h : W.cell? ⟨s, o, none⟩ = some v) :
    (((((W.setCell ⟨g, 0, none⟩ x0).setCell ⟨g, 1, none⟩ x1).setCell ⟨g, 2, none⟩ x2).setCell ⟨g, 3, none⟩ x3).setCell ⟨g, 4, none⟩ x4).cell? ⟨s, o, none⟩ = some v :=
  (cell_block ((turn5 W g 0 1 2 3 4 x0 x1 x2 x3 x4).block s (World.block_lt_of_cell? W ⟨s, o, none⟩ h) hne) o).trans h
theorem drew_cell (w : World) (a : Addr) : w.drew.cell? a = w.cell? a := rfl
theorem drew_heap (w : World) : w.drew.heap = w.heap := rfl
theorem put5_farD (W : World) (g s : Nat) (hne : s ≠ g) (x0 x1 x2 x3 x4 : Value) (o : Nat) (v : Value) (h : W.cell? ⟨s, o, none⟩ = some v) :
    (((((W.setCell ⟨g, 0, none⟩ x0).setCell ⟨g, 1, none⟩ x1).setCell ⟨g, 2, none⟩ x2).setCell ⟨g, 3, none⟩ x3).setCell ⟨g, 4, none⟩ x4).drew.cell? ⟨s, o, none⟩ = some v := by
  rw [drew_cell]; exact put5_far W g s hne x0 x1 x2 x3 x4 o v h
theorem put5_blk {W : World} {g : Nat} {cs : Array Value} {t : TypeId} (h : W.heap[g]? = some (.cells cs t (0, 0))) (hs : cs.size = 5) (x0 x1 x2 x3 x4 : Value) :
    (((((W.setCell ⟨g, 0, none⟩ x0).setCell ⟨g, 1, none⟩ x1).setCell ⟨g, 2, none⟩ x2).setCell ⟨g, 3, none⟩ x3).setCell ⟨g, 4, none⟩ x4).heap[g]? = some (.cells #[x0, x1, x2, x3, x4] t (0, 0)) := by
  rw [heap_set (heap_set (heap_set (heap_set (heap_set h 0 x0) 1 x1) 2 x2) 3 x3) 4 x4]
  rcases cs with ⟨l⟩
  match l, hs with
  | [a0, a1, a2, a3, a4], _ => simp
theorem put5_blkD {W : World} {g : Nat} {cs : Array Value} {t : TypeId} (h : W.heap[g]? = some (.cells cs t (0, 0))) (hs : cs.size = 5) (x0 x1 x2 x3 x4 : Value) :
    (((((W.setCell ⟨g, 0, none⟩ x0).setCell ⟨g, 1, none⟩ x1).setCell ⟨g, 2, none⟩ x2).setCell ⟨g, 3, none⟩ x3).setCell ⟨g, 4, none⟩ x4).drew.heap[g]? = some (.cells #[x0, x1, x2, x3, x4] t (0, 0)) := by
  rw [drew_heap]; exact put5_blk h hs x0 x1 x2 x3 x4
set_option maxRecDepth 100000 in
set_option maxHeartbeats 2000000 in
theorem sign_any {W : World} {s b g : Nat} {r c : Int} {B : Bs} (h : BrAt W s b g r c B) (y : Int) (ge : Bool) : Calls Try.prog 144 #[.pointer (some ⟨s, 0, none⟩), .int .u8 y, .bool ge] W fun e W' => e = .returned (B.chr y ge).val ∧ Below W.heap.size W W' := by
  have hlt := h.lt
  have h1 := h.below (below_alloc W (.cells c0.arr 45))
  rw [zero_eq] at h1
  have hn := heap_alloc_new W (.cells #[.int .u8 0, .bool false, .bool false, .int .u8 0, .int .u8 0] 45)
  have hb := below_alloc W (.cells #[.int .u8 0, .bool false, .bool false, .int .u8 0, .int .u8 0] 45)
  obtain ⟨W1, hW1⟩ : ∃ W1, W1 = W.alloc (.cells #[.int .u8 0, .bool false, .bool false, .int .u8 0, .int .u8 0] 45) := ⟨_, rfl⟩
  rw [← hW1] at h1 hn hb
  have hn1 : W1.heap[W.heap.size]? = some (.cells #[.int .u8 0, .bool false, .bool false, .int .u8 0, .int .u8 0] 45 (0, 0)) := hn
  obtain ⟨q0, q1, q2, q3, q4, q5, q6, q7, _⟩ := h1.cells
  have fz : ∀ o, W1.frozen? ⟨W.heap.size, o, none⟩ = false := fun o => by simp [World.frozen?, hn1]
  have k0 : W1.cell? ⟨W.heap.size, 0, none⟩ = some (.int .u8 0) := by simp [World.cell?, hn1]
  have k1 : W1.cell? ⟨W.heap.size, 1, none⟩ = some (.bool false) := by simp [World.cell?, hn1]
  have k2 : W1.cell? ⟨W.heap.size, 2, none⟩ = some (.bool false) := by simp [World.cell?, hn1]
  have k3 : W1.cell? ⟨W.heap.size, 3, none⟩ = some (.int .u8 0) := by simp [World.cell?, hn1]
  have k4 : W1.cell? ⟨W.heap.size, 4, none⟩ = some (.int .u8 0) := by simp [World.cell?, hn1]
  have HW := Lib.hid hW1.symm
  have HN := Lib.hid (put5_blkD hn1 rfl (.int .u8 y) (.bool ge) (.bool false) (.int .u8 B.look.li) (.int .u8 B.look.co))
  have HT := Lib.hid ((hb).trans (((turn5 W1 W.heap.size 0 1 2 3 4 (.int .u8 y) (.bool ge) (.bool false) (.int .u8 B.look.li) (.int .u8 B.look.co)).at_below (B := W.heap.size) (by have := hb.size; exact this) (Nat.le_refl _))))
  have FAR := Lib.hid (fun (o : Nat) (v : Value) (hv : W1.cell? ⟨s, o, none⟩ = some v) => put5_farD W1 W.heap.size s (by omega) (.int .u8 y) (.bool ge) (.bool false) (.int .u8 B.look.li) (.int .u8 B.look.co) o v hv)
  unfold Bs.chr
  clear h h1 hn hn1 hb hW1 q0 q1 q2 q3 q4 q7
  go_enter Try.func144, Try.ntmps144
  go_upto_region 1 with fail
  rw [HW.out]
  refine wp_region_held_drew (S := fun X => X.cell? ⟨s, 5, none⟩ = some (.int .u8 B.look.li) ∧ X.cell? ⟨s, 6, none⟩ = some (.int .u8 B.look.co)) (by kernel_rfl) (⟨q5, q6⟩) (fun hHeld => ?_)
  refine wpAnyH_take (i := 0) (oi := { dst := some 7, op := Op.move (Operand.tmp 1), type := 5, pos := "paint.go:82", after := #[], guard := none }) (v := ?_) rfl (by kernel_rfl) (by kernel_rfl) (by kernel_rfl) (fun _ _ _ h => h) (Or.inl ⟨by rfl, ?_⟩) (by assumption) ?_
  rotate_left
  focus (intro w hSw; (try dsimp only at hSw); go_simp; try (with_reducible rfl))
  try simp only [Act.put, List.setIfInBounds_toArray, List.set_cons_zero, List.set_cons_succ]
  refine wpAnyH_take (i := 1) (oi := { dst := some 8, op := Op.move (Operand.tmp 2), type := 4, pos := "paint.go:82", after := #[], guard := none }) (v := ?_) rfl (by kernel_rfl) (by kernel_rfl) (by kernel_rfl) (fun _ _ _ h => h) (Or.inl ⟨by rfl, ?_⟩) (by assumption) ?_
  rotate_left
  focus (intro w hSw; (try dsimp only at hSw); go_simp; try (with_reducible rfl))
  try simp only [Act.put, List.setIfInBounds_toArray, List.set_cons_zero, List.set_cons_succ]
  refine wpAnyH_take (i := 2) (oi := { dst := some 9, op := Op.move (Operand.tmp 0), type := 148, pos := "paint.go:82", after := #[], guard := none }) (v := ?_) rfl (by kernel_rfl) (by kernel_rfl) (by kernel_rfl) (fun _ _ _ h => h) (Or.inl ⟨by rfl, ?_⟩) (by assumption) ?_
  rotate_left
  focus (intro w hSw; (try dsimp only at hSw); go_simp; try (with_reducible rfl))
  try simp only [Act.put, List.setIfInBounds_toArray, List.set_cons_zero, List.set_cons_succ]
  refine wpAnyH_take (i := 3) (oi := { dst := some 10, op := Op.nilCheck (Operand.tmp 9), type := 0, pos := "paint.go:82", after := #[{ on := 2, ground := Ground.data }], guard := none }) (v := ?_) rfl (by kernel_rfl) (by kernel_rfl) (by kernel_rfl) (fun _ _ _ h => h) (Or.inl ⟨by rfl, ?_⟩) (by assumption) ?_
  rotate_left
  focus (intro w hSw; (try dsimp only at hSw); go_simp; try (with_reducible rfl))
  try simp only [Act.put, List.setIfInBounds_toArray, List.set_cons_zero, List.set_cons_succ]
  refine wpAnyH_take (i := 4) (oi := { dst := some 11, op := Op.fieldAddr 117 (Operand.tmp 10) 2, type := 0, pos := "paint.go:82", after := #[{ on := 3, ground := Ground.data }], guard := none }) (v := ?_) rfl (by kernel_rfl) (by kernel_rfl) (by kernel_rfl) (fun _ _ _ h => h) (Or.inl ⟨by rfl, ?_⟩) (by assumption) ?_
  rotate_left
  focus (intro w hSw; (try dsimp only at hSw); go_simp; try (with_reducible rfl))
  try simp only [Act.put, List.setIfInBounds_toArray, List.set_cons_zero, List.set_cons_succ]
  refine wpAnyH_take (i := 5) (oi := { dst := some 12, op := Op.fieldAddr 45 (Operand.tmp 11) 3, type := 0, pos := "paint.go:82", after := #[{ on := 4, ground := Ground.data }], guard := none }) (v := ?_) rfl (by kernel_rfl) (by kernel_rfl) (by kernel_rfl) (fun _ _ _ h => h) (Or.inl ⟨by rfl, ?_⟩) (by assumption) ?_
  rotate_left
  focus (intro w hSw; (try dsimp only at hSw); go_simp; try (with_reducible rfl))
  try simp only [Act.put, List.setIfInBounds_toArray, List.set_cons_zero, List.set_cons_succ]
  refine wpAnyH_take (i := 6) (oi := { dst := some 13, op := Op.load 5 (Operand.tmp 12), type := 5, pos := "paint.go:82", after := #[{ on := 5, ground := Ground.data }], guard := none }) (v := ?_) rfl (by kernel_rfl) (by kernel_rfl) (by kernel_rfl) (fun _ _ _ h => h) (Or.inl ⟨by rfl, ?_⟩) (by assumption) ?_
  rotate_left
  focus (intro w hSw; (try dsimp only at hSw); go_simp; try (with_reducible rfl))
  try simp only [Act.put, List.setIfInBounds_toArray, List.set_cons_zero, List.set_cons_succ]
  refine wpAnyH_take (i := 7) (oi := { dst := some 14, op := Op.move (Operand.tmp 0), type := 148, pos := "paint.go:82", after := #[], guard := none }) (v := ?_) rfl (by kernel_rfl) (by kernel_rfl) (by kernel_rfl) (fun _ _ _ h => h) (Or.inl ⟨by rfl, ?_⟩) (by assumption) ?_
  rotate_left
  focus (intro w hSw; (try dsimp only at hSw); go_simp; try (with_reducible rfl))
  try simp only [Act.put, List.setIfInBounds_toArray, List.set_cons_zero, List.set_cons_succ]
  refine wpAnyH_take (i := 8) (oi := { dst := some 15, op := Op.nilCheck (Operand.tmp 14), type := 0, pos := "paint.go:82", after := #[{ on := 7, ground := Ground.data }], guard := none }) (v := ?_) rfl (by kernel_rfl) (by kernel_rfl) (by kernel_rfl) (fun _ _ _ h => h) (Or.inl ⟨by rfl, ?_⟩) (by assumption) ?_
  rotate_left
  focus (intro w hSw; (try dsimp only at hSw); go_simp; try (with_reducible rfl))
  try simp only [Act.put, List.setIfInBounds_toArray, List.set_cons_zero, List.set_cons_succ]
  refine wpAnyH_take (i := 9) (oi := { dst := some 16, op := Op.fieldAddr 117 (Operand.tmp 15) 2, type := 0, pos := "paint.go:82", after := #[{ on := 8, ground := Ground.data }], guard := none }) (v := ?_) rfl (by kernel_rfl) (by kernel_rfl) (by kernel_rfl) (fun _ _ _ h => h) (Or.inl ⟨by rfl, ?_⟩) (by assumption) ?_
  rotate_left
  focus (intro w hSw; (try dsimp only at hSw); go_simp; try (with_reducible rfl))
  try simp only [Act.put, List.setIfInBounds_toArray, List.set_cons_zero, List.set_cons_succ]
  refine wpAnyH_take (i := 10) (oi := { dst := some 17, op := Op.fieldAddr 45 (Operand.tmp 16) 4, type := 0, pos := "paint.go:82", after := #[{ on := 9, ground := Ground.data }], guard := none }) (v := ?_) rfl (by kernel_rfl) (by kernel_rfl) (by kernel_rfl) (fun _ _ _ h => h) (Or.inl ⟨by rfl, ?_⟩) (by assumption) ?_
  rotate_left
  focus (intro w hSw; (try dsimp only at hSw); go_simp; try (with_reducible rfl))
  try simp only [Act.put, List.setIfInBounds_toArray, List.set_cons_zero, List.set_cons_succ]
  refine wpAnyH_take (i := 11) (oi := { dst := some 18, op := Op.load 5 (Operand.tmp 17), type := 5, pos := "paint.go:82", after := #[{ on := 10, ground := Ground.data }], guard := none }) (v := ?_) rfl (by kernel_rfl) (by kernel_rfl) (by kernel_rfl) (fun _ _ _ h => h) (Or.inl ⟨by rfl, ?_⟩) (by assumption) ?_
  rotate_left
  focus (intro w hSw; (try dsimp only at hSw); go_simp; try (with_reducible rfl))
  try simp only [Act.put, List.setIfInBounds_toArray, List.set_cons_zero, List.set_cons_succ]
  refine wpAnyH_take (i := 12) (oi := { dst := some 19, op := Op.build 45 #[(0, Operand.tmp 7), (1, Operand.tmp 8), (3, Operand.tmp 13), (4, Operand.tmp 18)], type := 45, pos := "paint.go:82", after := #[{ on := 0, ground := Ground.data }, { on := 1, ground := Ground.data }, { on := 6, ground := Ground.data }, { on := 11, ground := Ground.data }], guard := none }) (v := ?_) rfl (by kernel_rfl) (by kernel_rfl) (by kernel_rfl) (fun _ _ _ h => h) (Or.inl ⟨by rfl, ?_⟩) (by assumption) ?_
  rotate_left
  focus (intro w hSw; (try dsimp only at hSw); go_simp; try (with_reducible rfl))
  try simp only [Act.put, List.setIfInBounds_toArray, List.set_cons_zero, List.set_cons_succ]
  refine wpAnyH_ready (rs := [13]) (by kernel_rfl) (by simp) (AllReadyH.cons (o := { dst := none, op := Op.store 45 (Operand.tmp 6) (Operand.tmp 19), type := 0, pos := "paint.go:82", after := #[{ on := 12, ground := Ground.data }, { on := 0, ground := Ground.phase }, { on := 1, ground := Ground.phase }, { on := 2, ground := Ground.phase }, { on := 3, ground := Ground.phase }, { on := 4, ground := Ground.phase }, { on := 5, ground := Ground.phase }, { on := 6, ground := Ground.phase }, { on := 7, ground := Ground.phase }, { on := 8, ground := Ground.phase }, { on := 9, ground := Ground.phase }, { on := 10, ground := Ground.phase }, { on := 11, ground := Ground.phase }, { on := 12, ground := Ground.phase }], guard := none }) rfl (fun K hK => ?_) AllReadyH.nil)
  go_simp
  go_wp2_with fail
  go_wp2_with fail
  refine hK.out _ _ (⟨FAR.out 5 _ q5, FAR.out 6 _ q6⟩) (fun hHeld => ?_)
  clear hK K
  try simp only [Act.put, List.setIfInBounds_toArray, List.set_cons_zero, List.set_cons_succ]
  refine wpAnyH_done (by kernel_rfl) ?_ _
  go_wp2_with fail
  exact bodyPost_ret (results_cell_row rfl _ _ W.heap.size 45 _ (0, 0) _ rfl HN.out Try.underlying45 rfl size_cl) rfl ⟨rfl, below_drew HT.out⟩
set_option maxRecDepth 100000 in
set_option maxHeartbeats 4000000 in
theorem lay_any {W : World} {s b g : Nat} {r c : Int} {B : Bs} (h : BrAt W s b g r c B) (x : Cl) : Calls Try.prog 143 #[.pointer (some ⟨s, 0, none⟩), x.val] W fun e W' => (∃ v, e = .returned v) ∧ BrAt W' s b g r c (B.lay x) ∧ Turn (BrS s b g) W W' := by
  have hlt := h.lt
  obtain ⟨nb, ng⟩ := h.ne
  have h1 := h.below (below_alloc W (.cells #[.int .u8 x.b, .bool x.ge, .bool x.st, .int .u8 x.li, .int .u8 x.co] 45))
  have hn := heap_alloc_new W (.cells #[.int .u8 x.b, .bool x.ge, .bool x.st, .int .u8 x.li, .int .u8 x.co] 45)
  have hb := below_alloc W (.cells #[.int .u8 x.b, .bool x.ge, .bool x.st, .int .u8 x.li, .int .u8 x.co] 45)
  obtain ⟨W1, hW1⟩ : ∃ W1, W1 = W.alloc (.cells #[.int .u8 x.b, .bool x.ge, .bool x.st, .int .u8 x.li, .int .u8 x.co] 45) := ⟨_, rfl⟩
  rw [← hW1] at h1 hn hb
  have hgs : W.heap.size ≠ g := by have := h.pl.ltg; omega
  have hn1 : W1.drew.heap[W.heap.size]? = some (.cells #[.int .u8 x.b, .bool x.ge, .bool x.st, .int .u8 x.li, .int .u8 x.co] 45 (0, 0)) := hn
  obtain ⟨q0, q1, q2, q3, q4, q5, q6, q7, _⟩ := h1.drew.cells
  have k0 : W1.drew.cell? ⟨W.heap.size, 0, none⟩ = some (.int .u8 x.b) := by simp [World.cell?, hn1]
  have k1 : W1.drew.cell? ⟨W.heap.size, 1, none⟩ = some (.bool x.ge) := by simp [World.cell?, hn1]
  have k2 : W1.drew.cell? ⟨W.heap.size, 2, none⟩ = some (.bool x.st) := by simp [World.cell?, hn1]
  have k3 : W1.drew.cell? ⟨W.heap.size, 3, none⟩ = some (.int .u8 x.li) := by simp [World.cell?, hn1]
  have k4 : W1.drew.cell? ⟨W.heap.size, 4, none⟩ = some (.int .u8 x.co) := by simp [World.cell?, hn1]
  have HW := Lib.hid hW1.symm
  have H1 := Lib.hid h1
  have FAR := Lib.hid (fun (w2 : World) (t : Turn (At g) W1.drew w2) => show w2.cell? ⟨s, 0, none⟩ = some (.pointer (some ⟨b, 0, none⟩)) ∧ w2.cell? ⟨s, 1, none⟩ = some (.int .i64 B.p) ∧ w2.cell? ⟨W.heap.size, 0, none⟩ = some (.int .u8 x.b) ∧ w2.cell? ⟨W.heap.size, 1, none⟩ = some (.bool x.ge) ∧ w2.cell? ⟨W.heap.size, 2, none⟩ = some (.bool x.st) ∧ w2.cell? ⟨W.heap.size, 3, none⟩ = some (.int .u8 x.li) ∧ w2.cell? ⟨W.heap.size, 4, none⟩ = some (.int .u8 x.co) by
    have e1 := t.block s (by have := h1.lt; exact this) ng
    have e2 := t.block W.heap.size (lt_of_block hn1) hgs
    exact ⟨(cell_block e1 0).trans q0, (cell_block e1 1).trans q1, (cell_block e2 0).trans k0, (cell_block e2 1).trans k1, (cell_block e2 2).trans k2, (cell_block e2 3).trans k3, (cell_block e2 4).trans k4⟩)
  have HB := Lib.hid hb
  have HNG := Lib.hid ng
  clear h h1 hn hn1 hb hW1 q2 q3 q4 q5 q6 q7 nb ng
  go_enter Try.func143, Try.ntmps143
  go_upto_region 1 with fail
  rw [HW.out]
  refine wp_region_held_drew (S := fun X => X.cell? ⟨s, 0, none⟩ = some (.pointer (some ⟨b, 0, none⟩)) ∧ X.cell? ⟨s, 1, none⟩ = some (.int .i64 B.p) ∧ X.cell? ⟨W.heap.size, 0, none⟩ = some (.int .u8 x.b) ∧ X.cell? ⟨W.heap.size, 1, none⟩ = some (.bool x.ge) ∧ X.cell? ⟨W.heap.size, 2, none⟩ = some (.bool x.st) ∧ X.cell? ⟨W.heap.size, 3, none⟩ = some (.int .u8 x.li) ∧ X.cell? ⟨W.heap.size, 4, none⟩ = some (.int .u8 x.co)) (by kernel_rfl) (⟨q0, q1, k0, k1, k2, k3, k4⟩) (fun hHeld => ?_)
  refine wpAnyH_take (i := 0) (oi := { dst := some 4, op := Op.move (Operand.tmp 0), type := 148, pos := "paint.go:90", after := #[], guard := none }) (v := ?_) rfl (by kernel_rfl) (by kernel_rfl) (by kernel_rfl) (fun _ _ _ h => h) (Or.inl ⟨by rfl, ?_⟩) (by assumption) ?_
  rotate_left
  focus (intro w hSw; (try dsimp only at hSw); go_simp; try (with_reducible rfl))
  try simp only [Act.put, List.setIfInBounds_toArray, List.set_cons_zero, List.set_cons_succ]
  refine wpAnyH_take (i := 1) (oi := { dst := some 5, op := Op.nilCheck (Operand.tmp 4), type := 0, pos := "paint.go:90", after := #[{ on := 0, ground := Ground.data }], guard := none }) (v := ?_) rfl (by kernel_rfl) (by kernel_rfl) (by kernel_rfl) (fun _ _ _ h => h) (Or.inl ⟨by rfl, ?_⟩) (by assumption) ?_
  rotate_left
  focus (intro w hSw; (try dsimp only at hSw); go_simp; try (with_reducible rfl))
  try simp only [Act.put, List.setIfInBounds_toArray, List.set_cons_zero, List.set_cons_succ]
  refine wpAnyH_take (i := 2) (oi := { dst := some 6, op := Op.fieldAddr 117 (Operand.tmp 5) 0, type := 0, pos := "paint.go:90", after := #[{ on := 1, ground := Ground.data }], guard := none }) (v := ?_) rfl (by kernel_rfl) (by kernel_rfl) (by kernel_rfl) (fun _ _ _ h => h) (Or.inl ⟨by rfl, ?_⟩) (by assumption) ?_
  rotate_left
  focus (intro w hSw; (try dsimp only at hSw); go_simp; try (with_reducible rfl))
  try simp only [Act.put, List.setIfInBounds_toArray, List.set_cons_zero, List.set_cons_succ]
  refine wpAnyH_take (i := 3) (oi := { dst := some 7, op := Op.load 26 (Operand.tmp 6), type := 26, pos := "paint.go:90", after := #[{ on := 2, ground := Ground.data }], guard := none }) (v := ?_) rfl (by kernel_rfl) (by kernel_rfl) (by kernel_rfl) (fun _ _ _ h => h) (Or.inl ⟨by rfl, ?_⟩) (by assumption) ?_
  rotate_left
  focus (intro w hSw; (try dsimp only at hSw); go_simp; try (with_reducible rfl))
  try simp only [Act.put, List.setIfInBounds_toArray, List.set_cons_zero, List.set_cons_succ]
  refine wpAnyH_take (i := 4) (oi := { dst := some 8, op := Op.move (Operand.tmp 0), type := 148, pos := "paint.go:90", after := #[], guard := none }) (v := ?_) rfl (by kernel_rfl) (by kernel_rfl) (by kernel_rfl) (fun _ _ _ h => h) (Or.inl ⟨by rfl, ?_⟩) (by assumption) ?_
  rotate_left
  focus (intro w hSw; (try dsimp only at hSw); go_simp; try (with_reducible rfl))
  try simp only [Act.put, List.setIfInBounds_toArray, List.set_cons_zero, List.set_cons_succ]
  refine wpAnyH_take (i := 5) (oi := { dst := some 9, op := Op.nilCheck (Operand.tmp 8), type := 0, pos := "paint.go:90", after := #[{ on := 4, ground := Ground.data }], guard := none }) (v := ?_) rfl (by kernel_rfl) (by kernel_rfl) (by kernel_rfl) (fun _ _ _ h => h) (Or.inl ⟨by rfl, ?_⟩) (by assumption) ?_
  rotate_left
  focus (intro w hSw; (try dsimp only at hSw); go_simp; try (with_reducible rfl))
  try simp only [Act.put, List.setIfInBounds_toArray, List.set_cons_zero, List.set_cons_succ]
  refine wpAnyH_take (i := 6) (oi := { dst := some 10, op := Op.fieldAddr 117 (Operand.tmp 9) 1, type := 0, pos := "paint.go:90", after := #[{ on := 5, ground := Ground.data }], guard := none }) (v := ?_) rfl (by kernel_rfl) (by kernel_rfl) (by kernel_rfl) (fun _ _ _ h => h) (Or.inl ⟨by rfl, ?_⟩) (by assumption) ?_
  rotate_left
  focus (intro w hSw; (try dsimp only at hSw); go_simp; try (with_reducible rfl))
  try simp only [Act.put, List.setIfInBounds_toArray, List.set_cons_zero, List.set_cons_succ]
  refine wpAnyH_take (i := 7) (oi := { dst := some 11, op := Op.load 3 (Operand.tmp 10), type := 3, pos := "paint.go:90", after := #[{ on := 6, ground := Ground.data }], guard := none }) (v := ?_) rfl (by kernel_rfl) (by kernel_rfl) (by kernel_rfl) (fun _ _ _ h => h) (Or.inl ⟨by rfl, ?_⟩) (by assumption) ?_
  rotate_left
  focus (intro w hSw; (try dsimp only at hSw); go_simp; try (with_reducible rfl))
  try simp only [Act.put, List.setIfInBounds_toArray, List.set_cons_zero, List.set_cons_succ]
  refine wpAnyH_take (i := 8) (oi := { dst := some 12, op := Op.load 45 (Operand.tmp 3), type := 45, pos := "paint.go:90", after := #[], guard := none }) (v := ?_) rfl (by kernel_rfl) (by kernel_rfl) (by kernel_rfl) (fun _ _ _ h => h) (Or.inl ⟨by rfl, ?_⟩) (by assumption) ?_
  rotate_left
  focus (intro w hSw; (try dsimp only at hSw); go_simp; try (with_reducible rfl))
  try simp only [Act.put, List.setIfInBounds_toArray, List.set_cons_zero, List.set_cons_succ]
  refine wpAnyH_ready (rs := [9]) (by kernel_rfl) (by simp) (AllReadyH.cons (o := { dst := some 13, op := Op.call { callee := Callee.value (Operand.func 49), args := #[Operand.tmp 7, Operand.tmp 11, Operand.tmp 12], argTypes := #[26, 3, 45] }, type := 4, pos := "paint.go:90", after := #[{ on := 3, ground := Ground.data }, { on := 7, ground := Ground.data }, { on := 8, ground := Ground.data }], guard := none }) rfl (fun K hK => ?_) AllReadyH.nil)
  go_simp
  go_at_call 49
  refine (set_any H1.out.pl.drew B.p x).mono ?_
  rintro e w2 ⟨rfl, hp, ht⟩
  obtain ⟨q0', q1', k0', k1', k2', k3', k4'⟩ := FAR.out _ ht
  go_wp2_with fail
  refine hK.out _ _ (⟨q0', q1', k0', k1', k2', k3', k4'⟩) (fun hHeld => ?_)
  clear hK K
  try simp only [Act.put, List.setIfInBounds_toArray, List.set_cons_zero, List.set_cons_succ]
  refine wpAnyH_done (by kernel_rfl) ?_ _
  have H2 := Lib.hid (H1.out.drew.turn hp ht HNG.out (setL_length _ _ _))
  have HT := Lib.hid ht
  clear hp ht k0' k1' k2' k3' k4' k0 k1 k2 k3 k4 q0 q1
  go_wp2_with (go_at_call 145; (with_reducible refine (behind_any H2.out B.p).mono ?_); rintro e w3 ⟨rfl, hb3⟩
               have H3 := Lib.hid (H2.out.below hb3)
               have B3 := Lib.hid hb3
               obtain ⟨_, _, _, _, _, _, _, _, fz⟩ := H3.out.cells
               clear hb3)
  have hm := mv_bd (n := (B.M.length : Int)) (a := B.p) (b := 1) (by have := H1.out.pl.pos; omega)
  have hl : (setL B.M B.p x).length = B.M.length := setL_length _ _ _
  refine bodyPost_end (results_none rfl _ _ _) rfl ⟨⟨_, rfl⟩, ?_, ?_⟩
  · have := H3.out.move (mv (setL B.M B.p x).length B.p 1) (by rw [hl]; exact hm.1) (by rw [hl]; exact hm.2)
    unfold Bs.lay
    rw [hl] at this ⊢
    exact this
  · exact ((((Turn.of_below HB.out).drew).trans (HT.out.mono fun k hk => .inr (.inr hk))).trans (Turn.of_below B3.out)).trans ((turn_set w3 s 1 _).mono fun k hk => .inl hk)
end Go.Proofs.Ytglkjcdbffkbcaa.Pl
