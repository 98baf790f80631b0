/-
  Contracts of the tables of package code: each call returns the page's 256 signs, and leaves all that was in memory as it was.
-/
import Derived.Test.YtgjhboikfbafcaaRows
import Derived.WalkKit
import Derived.WalkSpells
import Derived.WalkLawsBesides
import Derived.Deep.QuietTactic
import Derived.BigQuiet
import Derived.Outline
import Derived.Lib.Hide
import Derived.Deep.WholeRow
import Derived.Laws.CopyOwn
import Derived.Deep.DeepCutAuto
import Derived.Maps.OwnOps
namespace Go.Proofs.Ytgjhboikfbafcaa.Code
open Go.RowKit

/-! ### The signs, plainly -/
def p37 : List Int := [0, 1, 2, 3, 156, 9, 134, 127, 151, 141, 142, 11, 12, 13, 14, 15, 16, 17, 18, 19, 157, 133, 8, 135, 24, 25, 146, 143, 28, 29, 30, 31, 128, 129, 130, 131, 132, 10, 23, 27, 136, 137, 138, 139, 140, 5, 6, 7, 144, 145, 22, 147, 148, 149, 150, 4, 152, 153, 154, 155, 20, 21, 158, 26, 32, 160, 226, 228, 224, 225, 227, 229, 231, 241, 162, 46, 60, 40, 43, 124, 38, 233, 234, 235, 232, 237, 238, 239, 236, 223, 33, 36, 42, 41, 59, 172, 45, 47, 194, 196, 192, 193, 195, 197, 199, 209, 166, 44, 37, 95, 62, 63, 248, 201, 202, 203, 200, 205, 206, 207, 204, 96, 58, 35, 64, 39, 61, 34, 216, 97, 98, 99, 100, 101, 102, 103, 104, 105, 171, 187, 240, 253, 254, 177, 176, 106, 107, 108, 109, 110, 111, 112, 113, 114, 170, 186, 230, 184, 198, 164, 181, 126, 115, 116, 117, 118, 119, 120, 121, 122, 161, 191, 208, 221, 222, 174, 94, 163, 165, 183, 169, 167, 182, 188, 189, 190, 91, 93, 175, 168, 180, 215, 123, 65, 66, 67, 68, 69, 70, 71, 72, 73, 173, 244, 246, 242, 243, 245, 125, 74, 75, 76, 77, 78, 79, 80, 81, 82, 185, 251, 252, 249, 250, 255, 92, 247, 83, 84, 85, 86, 87, 88, 89, 90, 178, 212, 214, 210, 211, 213, 48, 49, 50, 51, 52, 53, 54, 55, 56, 57, 179, 219, 220, 217, 218, 159]
def p500 : List Int := ((((((p37.set 74 91).set 79 33).set 90 93).set 95 94).set 176 162).set 186 172).set 187 124
def p1047 : List Int := (((((p37.set 95 94).set 173 91).set 176 172).set 186 221).set 187 168).set 189 93
def tabl (page : Int) : List Int := if page = 500 then p500 else if page = 1047 then p1047 else p37
theorem p37_length : p37.length = 256 := by kernel_rfl
theorem p500_length : p500.length = 256 := by kernel_rfl
theorem p1047_length : p1047.length = 256 := by kernel_rfl
def z256 : List Int := List.replicate 256 0
theorem tabl_length (page : Int) : (tabl page).length = 256 := by
  unfold tabl
  split
  · exact p500_length
  · split
    · exact p1047_length
    · exact p37_length

/-- A row of signs as cells. -/
def tab (L : List Int) : Array Value := (L.map (Value.int .i32)).toArray
theorem tab_size (L : List Int) : (tab L).size = L.length := by simp [tab]
theorem tab_all (L : List Int) : (tab L).all (·.oneCell') = true := by
  rw [Array.all_eq_true_iff_forall_mem]
  intro v hv
  simp [tab] at hv
  obtain ⟨a, _, rfl⟩ := hv
  rfl
theorem tab_get (L : List Int) (i : Nat) (h : i < L.length) : (tab L)[i]? = some (.int .i32 (L[i]?.getD 0)) := by simp [tab, h]
theorem tab_set (L : List Int) (i : Nat) (x : Int) : (tab L).setIfInBounds i (.int .i32 x) = tab (L.set i x) := by
  simp [tab, List.map_set]

theorem info_tab : (Try.prog.info? 163).map (fun i => (i.zero, i.size)) = some (some (.agg (tab z256)), 256) := by kernel_rfl
theorem size_tab (L : List Int) (h : L.length = 256) : (Try.prog.info? 163).map (·.size) = some (tab L).size := by
  rw [tab_size, h]; exact (zero_of_info info_tab).2
theorem zeros_length : z256.length = 256 := by kernel_rfl

section
variable {P : Program}
theorem wpList_build_as {ops : Array Oper} {rest : List Oper} {o : Oper} {a : Act} {w : World} {Q : Exit → Act → World → Prop} (hg : o.guard = none) (t : TypeId) (parts : Array (Nat × Operand)) (ho : o.op = .build t parts)
    (cs : Array Value) (hb : P.built t (parts.map fun (i, x) => (i, a.eval x)).toList = some cs)
    (h : wpList P ops Q rest (a.put o.dst (.agg cs)) w) : wpList P ops Q (o :: rest) a w := by
  refine wpList_build hg t parts ho (by rw [hb]; rfl) ?_
  rw [hb]; exact h
end

theorem store_new (w : World) (A B : List Int) (hA : A.length = 256) (hB : B.length = 256) :
    (storeCells ⟨w.heap.size, 0, none⟩ (tab B).toList 0).run Try.prog (w.alloc (.cells (tab A) 163)) = .ok () (w.alloc (.cells (tab B) 163)) :=
  run_storeCells_new w _ _ _ (size_tab B hB) (by rw [tab_size, tab_size, hA, hB]) (tab_all _)

set_option maxRecDepth 100000 in
set_option maxHeartbeats 1000000 in
theorem page37_any (w : World) :
    Calls Try.prog 138 #[] w fun e w' => e = .returned (.agg (tab p37)) ∧ Below w.heap.size w w' := by
  have hz := (zero_of_info info_tab).1
  have hs := fun w => store_new w z256 p37 zeros_length p37_length
  go_enter Try.func138, Try.ntmps138
  go_wp2_with (first | (refine wpList_build_as rfl _ _ rfl (tab p37) (by kernel_rfl) ?_))
  refine bodyPost_ret (v := .agg (tab p37)) (results_cell_row rfl _ _ w.heap.size _ _ _ _ rfl (heap_alloc_last w _) Try.underlying163 rfl (size_tab p37 p37_length)) rfl ⟨rfl, (Below.refl _ _).alloc (Nat.le_refl _) _⟩

theorem below_box1 {w w' : World} {o : Obj} (hb : Below (w.alloc o).heap.size (w.alloc o) w') : Below w.heap.size w w' :=
  ((Below.refl _ _).alloc (Nat.le_refl _) _).trans (hb.mono (by simp))
theorem store_at (W : World) (g : Nat) (A B : List Int) (h : W.heap[g]? = some (.cells (tab A) 163 (0, 0))) (hA : A.length = 256) (hB : B.length = 256) :
    (storeCells ⟨g, 0, none⟩ (tab B).toList 0).run Try.prog W = .ok () (W.setRow g (tab B)) := by
  have hi := size_tab B hB
  have := run_storeVar_row (P := Try.prog) W g 163 163 (tab A) (tab B) h hi (by rw [tab_size, tab_size, hA, hB]) (tab_all _)
  cases hq : Try.prog.info? 163 with
  | none => simp [hq] at hi
  | some i =>
    have hs : (tab B).size = i.size := by simp [hq] at hi; omega
    simpa [storeVar, sizeOf, typeInfo, hq, Value.cells, hs] using this
theorem load_new (w : World) (A : List Int) (hA : A.length = 256) :
    (loadCellsFrom ⟨w.heap.size, 0, none⟩ 0 256 #[]).run Try.prog (w.alloc (.cells (tab A) 163)) = .ok (tab A) (w.alloc (.cells (tab A) 163)) :=
  run_loadCellsFrom_new w _ _ 256 (by rw [tab_size, hA])
def p500_1 : List Int := p37.set 74 91
theorem p500_1_length : p500_1.length = 256 := by unfold p500_1; rw [List.length_set]; exact p37_length
def p500_2 : List Int := p500_1.set 79 33
theorem p500_2_length : p500_2.length = 256 := by unfold p500_2; rw [List.length_set]; exact p500_1_length
def p500_3 : List Int := p500_2.set 90 93
theorem p500_3_length : p500_3.length = 256 := by unfold p500_3; rw [List.length_set]; exact p500_2_length
def p500_4 : List Int := p500_3.set 95 94
theorem p500_4_length : p500_4.length = 256 := by unfold p500_4; rw [List.length_set]; exact p500_3_length
def p500_5 : List Int := p500_4.set 176 162
theorem p500_5_length : p500_5.length = 256 := by unfold p500_5; rw [List.length_set]; exact p500_4_length
def p500_6 : List Int := p500_5.set 186 172
theorem p500_6_length : p500_6.length = 256 := by unfold p500_6; rw [List.length_set]; exact p500_5_length

set_option maxRecDepth 100000 in
set_option maxHeartbeats 1000000 in
theorem page500_any (w : World) :
    Calls Try.prog 136 #[] w fun e w' => e = .returned (.agg (tab p500)) ∧ Below w.heap.size w w' := by
  have hz := (zero_of_info info_tab).1
  have hs := fun w => store_new w z256 p37 zeros_length p37_length
  have g0 : (tab p37)[74]? = some (.int .i32 (p37[74]?.getD 0)) := tab_get p37 74 (by rw [p37_length]; decide)
  have s0 : (tab p37).setIfInBounds 74 (.int .i32 91) = tab p500_1 := tab_set _ _ _
  have g1 : (tab p500_1)[79]? = some (.int .i32 (p500_1[79]?.getD 0)) := tab_get p500_1 79 (by rw [p500_1_length]; decide)
  have s1 : (tab p500_1).setIfInBounds 79 (.int .i32 33) = tab p500_2 := tab_set _ _ _
  have g2 : (tab p500_2)[90]? = some (.int .i32 (p500_2[90]?.getD 0)) := tab_get p500_2 90 (by rw [p500_2_length]; decide)
  have s2 : (tab p500_2).setIfInBounds 90 (.int .i32 93) = tab p500_3 := tab_set _ _ _
  have g3 : (tab p500_3)[95]? = some (.int .i32 (p500_3[95]?.getD 0)) := tab_get p500_3 95 (by rw [p500_3_length]; decide)
  have s3 : (tab p500_3).setIfInBounds 95 (.int .i32 94) = tab p500_4 := tab_set _ _ _
  have g4 : (tab p500_4)[176]? = some (.int .i32 (p500_4[176]?.getD 0)) := tab_get p500_4 176 (by rw [p500_4_length]; decide)
  have s4 : (tab p500_4).setIfInBounds 176 (.int .i32 162) = tab p500_5 := tab_set _ _ _
  have g5 : (tab p500_5)[186]? = some (.int .i32 (p500_5[186]?.getD 0)) := tab_get p500_5 186 (by rw [p500_5_length]; decide)
  have s5 : (tab p500_5).setIfInBounds 186 (.int .i32 172) = tab p500_6 := tab_set _ _ _
  have g6 : (tab p500_6)[187]? = some (.int .i32 (p500_6[187]?.getD 0)) := tab_get p500_6 187 (by rw [p500_6_length]; decide)
  have s6 : (tab p500_6).setIfInBounds 187 (.int .i32 124) = tab p500 := tab_set _ _ _
  go_enter Try.func136, Try.ntmps136
  go_wp2_with fail
  refine (page37_any _).mono ?_
  rintro e w1 ⟨rfl, hb1⟩
  have hs0 := hb1.size
  rw [World.size_alloc] at hs0
  have h0 : (w1.alloc (.cells (tab p500) 163)).heap[w.heap.size]? = some (.cells (tab z256) 163 (0, 0)) := by
    rw [Below.heap_alloc _ _ _ (by omega), hb1.block _ (by rw [World.size_alloc]; omega)]; exact heap_alloc_last w _
  have B1 := (below_box1 hb1).alloc (by omega) (.cells (tab p500) 163)
  have H0 := Lib.hid h0
  clear hb1 h0 hs0
  go_wp2_with fail
  refine wp_load_row 163 _ rfl w1.heap.size rfl _ _ (0, 0) _ (heap_alloc_last w1 _) Try.underlying163 rfl (size_tab p500 p500_length) ?_
  have hst := store_at _ _ _ _ H0.out zeros_length p500_length
  go_wp2_with fail
  exact bodyPost_ret (v := .agg (tab p500)) (results_cell_row rfl _ _ w.heap.size _ _ _ _ rfl (setRow_heap _ _ _ _ _ _ H0.out) Try.underlying163 rfl (size_tab p500 p500_length)) rfl ⟨rfl, below_setRow B1 (Nat.le_refl _) _⟩
def p1047_1 : List Int := p37.set 95 94
theorem p1047_1_length : p1047_1.length = 256 := by unfold p1047_1; rw [List.length_set]; exact p37_length
def p1047_2 : List Int := p1047_1.set 173 91
theorem p1047_2_length : p1047_2.length = 256 := by unfold p1047_2; rw [List.length_set]; exact p1047_1_length
def p1047_3 : List Int := p1047_2.set 176 172
theorem p1047_3_length : p1047_3.length = 256 := by unfold p1047_3; rw [List.length_set]; exact p1047_2_length
def p1047_4 : List Int := p1047_3.set 186 221
theorem p1047_4_length : p1047_4.length = 256 := by unfold p1047_4; rw [List.length_set]; exact p1047_3_length
def p1047_5 : List Int := p1047_4.set 187 168
theorem p1047_5_length : p1047_5.length = 256 := by unfold p1047_5; rw [List.length_set]; exact p1047_4_length

set_option maxRecDepth 100000 in
set_option maxHeartbeats 1000000 in
theorem page1047_any (w : World) :
    Calls Try.prog 137 #[] w fun e w' => e = .returned (.agg (tab p1047)) ∧ Below w.heap.size w w' := by
  have hz := (zero_of_info info_tab).1
  have hs := fun w => store_new w z256 p37 zeros_length p37_length
  have g0 : (tab p37)[95]? = some (.int .i32 (p37[95]?.getD 0)) := tab_get p37 95 (by rw [p37_length]; decide)
  have s0 : (tab p37).setIfInBounds 95 (.int .i32 94) = tab p1047_1 := tab_set _ _ _
  have g1 : (tab p1047_1)[173]? = some (.int .i32 (p1047_1[173]?.getD 0)) := tab_get p1047_1 173 (by rw [p1047_1_length]; decide)
  have s1 : (tab p1047_1).setIfInBounds 173 (.int .i32 91) = tab p1047_2 := tab_set _ _ _
  have g2 : (tab p1047_2)[176]? = some (.int .i32 (p1047_2[176]?.getD 0)) := tab_get p1047_2 176 (by rw [p1047_2_length]; decide)
  have s2 : (tab p1047_2).setIfInBounds 176 (.int .i32 172) = tab p1047_3 := tab_set _ _ _
  have g3 : (tab p1047_3)[186]? = some (.int .i32 (p1047_3[186]?.getD 0)) := tab_get p1047_3 186 (by rw [p1047_3_length]; decide)
  have s3 : (tab p1047_3).setIfInBounds 186 (.int .i32 221) = tab p1047_4 := tab_set _ _ _
  have g4 : (tab p1047_4)[187]? = some (.int .i32 (p1047_4[187]?.getD 0)) := tab_get p1047_4 187 (by rw [p1047_4_length]; decide)
  have s4 : (tab p1047_4).setIfInBounds 187 (.int .i32 168) = tab p1047_5 := tab_set _ _ _
  have g5 : (tab p1047_5)[189]? = some (.int .i32 (p1047_5[189]?.getD 0)) := tab_get p1047_5 189 (by rw [p1047_5_length]; decide)
  have s5 : (tab p1047_5).setIfInBounds 189 (.int .i32 93) = tab p1047 := tab_set _ _ _
  go_enter Try.func137, Try.ntmps137
  go_wp2_with fail
  refine (page37_any _).mono ?_
  rintro e w1 ⟨rfl, hb1⟩
  have hs0 := hb1.size
  rw [World.size_alloc] at hs0
  have h0 : (w1.alloc (.cells (tab p1047) 163)).heap[w.heap.size]? = some (.cells (tab z256) 163 (0, 0)) := by
    rw [Below.heap_alloc _ _ _ (by omega), hb1.block _ (by rw [World.size_alloc]; omega)]; exact heap_alloc_last w _
  have B1 := (below_box1 hb1).alloc (by omega) (.cells (tab p1047) 163)
  have H0 := Lib.hid h0
  clear hb1 h0 hs0
  go_wp2_with fail
  refine wp_load_row 163 _ rfl w1.heap.size rfl _ _ (0, 0) _ (heap_alloc_last w1 _) Try.underlying163 rfl (size_tab p1047 p1047_length) ?_
  have hst := store_at _ _ _ _ H0.out zeros_length p1047_length
  go_wp2_with fail
  exact bodyPost_ret (v := .agg (tab p1047)) (results_cell_row rfl _ _ w.heap.size _ _ _ _ rfl (setRow_heap _ _ _ _ _ _ H0.out) Try.underlying163 rfl (size_tab p1047 p1047_length)) rfl ⟨rfl, below_setRow B1 (Nat.le_refl _) _⟩

theorem table_way (w w1 : World) (hb1 : Below (w.alloc (.cells (tab z256) 163)).heap.size (w.alloc (.cells (tab z256) 163)) w1) :
    w1.heap[w.heap.size]? = some (.cells (tab z256) 163 (0, 0)) ∧ Below w.heap.size w w1 :=
  ⟨by rw [hb1.block _ (by rw [World.size_alloc]; omega)]; exact heap_alloc_last w _, below_box1 hb1⟩

set_option maxHeartbeats 1000000 in
theorem table_any (page : Int) (w : World) :
    Calls Try.prog 114 #[.int .i64 page] w fun e w' => e = .returned (.agg (tab (tabl page))) ∧ Below w.heap.size w w' := by
  have hz := (zero_of_info info_tab).1
  by_cases h1 : page = 500
  · have HT : Hid (tabl page = p500) := by unfold Hid tabl; rw [if_pos h1]
    have hc : (page == 500) = true := by simpa using h1
    clear h1
    go_enter Try.func114, Try.ntmps114
    go_wp2_with fail
    refine (page500_any _).mono ?_
    rintro e w1 ⟨rfl, hb1⟩
    obtain ⟨h0, B1⟩ := table_way w w1 hb1
    have H0 := Lib.hid h0
    clear h0 hb1
    go_wp2_with (refine wpList_store_row rfl _ _ _ rfl w.heap.size (tab p500) rfl rfl _ _ H0.out (size_tab p500 p500_length) (by rw [tab_size, tab_size, p500_length, zeros_length]) (tab_all _) ?_)
    exact bodyPost_ret (v := .agg (tab p500)) (results_cell_row rfl _ _ w.heap.size _ _ _ _ rfl (setRow_heap _ _ _ _ _ _ H0.out) Try.underlying163 rfl (size_tab p500 p500_length)) rfl ⟨by rw [HT.out], below_setRow B1 (Nat.le_refl _) _⟩
  · have hc : (page == 500) = false := by simpa using h1
    by_cases h2 : page = 1047
    · have HT : Hid (tabl page = p1047) := by unfold Hid tabl; rw [if_neg h1, if_pos h2]
      have hd : (page == 1047) = true := by simpa using h2
      clear h1 h2
      go_enter Try.func114, Try.ntmps114
      go_wp2_with fail
      refine (page1047_any _).mono ?_
      rintro e w1 ⟨rfl, hb1⟩
      obtain ⟨h0, B1⟩ := table_way w w1 hb1
      have H0 := Lib.hid h0
      clear h0 hb1
      go_wp2_with (refine wpList_store_row rfl _ _ _ rfl w.heap.size (tab p1047) rfl rfl _ _ H0.out (size_tab p1047 p1047_length) (by rw [tab_size, tab_size, p1047_length, zeros_length]) (tab_all _) ?_)
      exact bodyPost_ret (v := .agg (tab p1047)) (results_cell_row rfl _ _ w.heap.size _ _ _ _ rfl (setRow_heap _ _ _ _ _ _ H0.out) Try.underlying163 rfl (size_tab p1047 p1047_length)) rfl ⟨by rw [HT.out], below_setRow B1 (Nat.le_refl _) _⟩
    · have HT : Hid (tabl page = p37) := by unfold Hid tabl; rw [if_neg h1, if_neg h2]
      have hd : (page == 1047) = false := by simpa using h2
      clear h1 h2
      go_enter Try.func114, Try.ntmps114
      go_wp2_with fail
      refine (page37_any _).mono ?_
      rintro e w1 ⟨rfl, hb1⟩
      obtain ⟨h0, B1⟩ := table_way w w1 hb1
      have H0 := Lib.hid h0
      clear h0 hb1
      go_wp2_with (refine wpList_store_row rfl _ _ _ rfl w.heap.size (tab p37) rfl rfl _ _ H0.out (size_tab p37 p37_length) (by rw [tab_size, tab_size, p37_length, zeros_length]) (tab_all _) ?_)
      exact bodyPost_ret (v := .agg (tab p37)) (results_cell_row rfl _ _ w.heap.size _ _ _ _ rfl (setRow_heap _ _ _ _ _ _ H0.out) Try.underlying163 rfl (size_tab p37 p37_length)) rfl ⟨by rw [HT.out], below_setRow B1 (Nat.le_refl _) _⟩

end Go.Proofs.Ytgjhboikfbafcaa.Code
