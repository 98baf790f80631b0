/-
  A byte's kind and name; a WCC's bits; what may stand in a field.
-/
import Derived.Test.YtmmgebiojpnhcaaDoorCmdA
namespace Go.Proofs.YtmmgebiojpnhcaaDoor.Cmd
open Go.RowKit Base
set_option linter.unusedVariables false
set_option linter.unusedSimpArgs false

def hitK (b : Int) (k : Int × Int × ByteArray) : Bool := b == k.1 || b == k.2.1
def findL : List (Int × Int × ByteArray) → Int → Int × Int × ByteArray
  | [], _ => (0, 0, ⟨#[]⟩)
  | k :: L, b => if hitK b k then k else findL L b
def findK (b : Int) : Int × Int × ByteArray := findL tabK b
def toldK (b : Int) : Int := (findK b).1
def nameK (b : Int) : ByteArray := (findK b).2.2
theorem findL_here : ∀ (L : List (Int × Int × ByteArray)) (b : Int) (j : Nat) (k : Int × Int × ByteArray), (∀ m ∈ L.take j, hitK b m = false) → L[j]? = some k → hitK b k = true → findL L b = k
  | [], b, j, k, _, h, _ => by simp at h
  | q :: L, b, 0, k, _, h, hk => by
    obtain rfl : q = k := by simpa using h
    simp [findL, hk]
  | q :: L, b, j + 1, k, ha, h, hk => by
    have h0 := ha q (by simp)
    simp only [findL, h0, Bool.false_eq_true, if_false]
    exact findL_here L b j k (fun m hm => ha m (by simp [hm])) (by simpa using h) hk
theorem findL_none : ∀ (L : List (Int × Int × ByteArray)) (b : Int), (∀ m ∈ L, hitK b m = false) → findL L b = (0, 0, ⟨#[]⟩)
  | [], b, _ => rfl
  | q :: L, b, ha => by
    have h0 := ha q (by simp)
    simp only [findL, h0, Bool.false_eq_true, if_false]
    exact findL_none L b fun m hm => ha m (by simp [hm])
theorem size_known : (Tryd.prog.info? 65).map (·.size) = some 3 := by kernel_rfl
theorem size_known8 : (Tryd.prog.info? 97).map (·.size) = some 24 := by kernel_rfl
theorem load_tab {w : World} (h : Tbl w) : (loadVar 97 ⟨0, 0, none⟩).run Tryd.prog w = .ok (.agg tabV) w := by
  obtain ⟨t, z, h⟩ := h
  exact run_loadVar_row _ 0 t 97 _ z _ h Tryd.underlying97 rfl size_known8
theorem tab_at (j : Nat) (h : j < 8) : ∃ x y s, tabK[j]? = some (x, y, s) ∧ ∀ w, (Instr.index 97 (.agg tabV) (.int .i64 j)).run Tryd.prog w = .ok (.agg #[.int .u8 x, .int .u8 y, .string s]) w := by
  match j, h with
  | 0, _ => exact ⟨_, _, _, rfl, fun w => by kernel_rfl⟩
  | 1, _ => exact ⟨_, _, _, rfl, fun w => by kernel_rfl⟩
  | 2, _ => exact ⟨_, _, _, rfl, fun w => by kernel_rfl⟩
  | 3, _ => exact ⟨_, _, _, rfl, fun w => by kernel_rfl⟩
  | 4, _ => exact ⟨_, _, _, rfl, fun w => by kernel_rfl⟩
  | 5, _ => exact ⟨_, _, _, rfl, fun w => by kernel_rfl⟩
  | 6, _ => exact ⟨_, _, _, rfl, fun w => by kernel_rfl⟩
  | 7, _ => exact ⟨_, _, _, rfl, fun w => by kernel_rfl⟩
def knownV (k : Int × Int × ByteArray) : Value := .agg #[.int .u8 k.1, .int .u8 k.2.1, .string k.2.2]
theorem put3_row {W : World} {g : Nat} {y0 y1 y2 : Value} {t : TypeId} (h : W.heap[g]? = some (.cells #[y0, y1, y2] t (0, 0))) (x0 x1 x2 : Value) : (((W.setCell ⟨g, 0, none⟩ x0).setCell ⟨g, 1, none⟩ x1).setCell ⟨g, 2, none⟩ x2).heap[g]? = some (.cells #[x0, x1, x2] t (0, 0)) := by
  have := heap_set (heap_set (heap_set h 0 x0) 1 x1) 2 x2
  simpa using this
theorem cells3 {W : World} {g : Nat} {x0 x1 x2 : Value} {t : TypeId} (h : W.heap[g]? = some (.cells #[x0, x1, x2] t (0, 0))) : W.cell? ⟨g, 0, none⟩ = some x0 ∧ W.cell? ⟨g, 1, none⟩ = some x1 ∧ W.cell? ⟨g, 2, none⟩ = some x2 ∧ W.frozen? ⟨g, 0, none⟩ = false ∧ W.frozen? ⟨g, 1, none⟩ = false ∧ W.frozen? ⟨g, 2, none⟩ = false := by
  simp [World.cell?, World.frozen?, h]
def FQ (w : World) (s : Nat) (W : World) : Prop := Below w.heap.size w W ∧ W.heap[s]? = some (.cells #[.int .u8 0, .int .u8 0, .string ⟨#[]⟩] 65 (0, 0)) ∧ s = w.heap.size
theorem FQ.below {w W W' : World} {s : Nat} (h : FQ w s W) (t : Below W.heap.size W W') : FQ w s W' := ⟨h.1.trans (t.mono h.1.size), (t.block s (lt_of_block h.2.1)).trans h.2.1, h.2.2⟩
theorem FQ.put {w W : World} {s : Nat} (h : FQ w s W) (x0 x1 x2 : Value) : Below w.heap.size w (((W.setCell ⟨s, 0, none⟩ x0).setCell ⟨s, 1, none⟩ x1).setCell ⟨s, 2, none⟩ x2) :=
  h.1.trans ((((turn_set W s 0 x0).trans (turn_set _ s 1 x1)).trans (turn_set _ s 2 x2)).at_below h.1.size (by rw [h.2.2]; exact Nat.le_refl _))
set_option maxRecDepth 100000 in
set_option maxHeartbeats 2000000 in
theorem find_any {w : World} (ht : Tbl w) (b : Int) : Calls Tryd.prog 29 #[.int .u8 b] w fun e w' => e = .returned (knownV (findK b)) ∧ Below w.heap.size w w' := by
  have HF := Lib.hid (show FQ w w.heap.size (w.alloc (.cells #[.int .u8 0, .int .u8 0, .string ⟨#[]⟩] 65)) from ⟨below_alloc _ _, heap_alloc_new _ _, rfl⟩)
  have HX := Lib.hid tab_at
  have HC := Lib.hid (ht.below (below_alloc w (.cells #[.int .u8 0, .int .u8 0, .string ⟨#[]⟩] 65)))
  have HSZ := Lib.hid (show tabV.size = 24 from rfl)
  obtain ⟨T, hT⟩ : ∃ T, T = tabV := ⟨_, rfl⟩
  obtain ⟨W1, hW1⟩ : ∃ W1, W1 = w.alloc (.cells #[.int .u8 0, .int .u8 0, .string ⟨#[]⟩] 65) := ⟨_, rfl⟩
  obtain ⟨s, hs⟩ : ∃ s, s = w.heap.size := ⟨_, rfl⟩
  rw [← hW1] at HF HC
  unfold Tbl at HC
  rw [← hT] at HX HC HSZ
  rw [← hs] at HF
  have HW1 := Lib.hid hW1.symm
  have HS := Lib.hid hs.symm
  clear hW1 hs ht hT
  go_enter Tryd.func29, Tryd.ntmps29
  go_upto_region 1 with fail
  rw [HW1.out, HS.out]
  obtain ⟨tt, tz, htab⟩ := HC.out
  have HTAB := Lib.hid htab
  have HS8 : Hid ((Tryd.prog.info? 97).map (·.size) = some T.size) := Lib.hid (by rw [HSZ.out]; exact size_known8)
  clear htab
  go_wp2_with (refine wpList_load_row rfl 97 _ rfl 0 rfl tt T tz _ HTAB.out Tryd.underlying97 rfl HS8.out ?_)
  go_loopw [6] (fun i wr => ∃ j : Nat, j ≤ 8 ∧ i = .int .i64 j ∧ FQ w s wr ∧ ∀ m ∈ tabK.take j, hitK b m = false) (fun i _ => 8 - (intOf i).toNat)
  case atStart => exact ⟨0, by omega, rfl, HF.out, by simp⟩
  case round =>
    obtain ⟨j, hj, rfl, hq, hn⟩ := hrel
    have HQ := Lib.hid hq
    have HN := Lib.hid hn
    clear hq hn
    by_cases hj8 : j < 8
    · have hji : (j : Int) < 8 := by omega
      have hj0 : (0 : Int) ≤ (j : Int) := Int.natCast_nonneg _
      obtain ⟨x, y, n, hk, hx⟩ := HX.out j hj8
      have HQ1 := Lib.hid (HQ.out.below (below_alloc wr (.cells #[.int .u8 x, .int .u8 y, .string n] 65)))
      have hc := heap_alloc_new wr (.cells #[.int .u8 x, .int .u8 y, .string n] 65)
      obtain ⟨W2, hW2⟩ : ∃ W2, W2 = wr.alloc (.cells #[.int .u8 x, .int .u8 y, .string n] 65) := ⟨_, rfl⟩
      obtain ⟨g, hg⟩ : ∃ g, g = wr.heap.size := ⟨_, rfl⟩
      rw [← hW2] at hc HQ1
      rw [← hg] at hc
      have HW2 := Lib.hid hW2.symm
      have HG := Lib.hid hg.symm
      have HK := Lib.hid hk
      have HJ8 := Lib.hid hj8
      obtain ⟨d0, d1, d2, _⟩ := cells3 hc
      clear hW2 hg hk hc
      by_cases hh : hitK b (x, y, n) = true
      · have HH := Lib.hid hh
        have hxy : (b == x) = true ∨ (b == x) = false ∧ (b == y) = true := by
          unfold hitK at hh
          cases e : b == x
          · rw [e] at hh; exact .inr ⟨rfl, by simpa using hh⟩
          · exact .inl rfl
        obtain ⟨r0, r1, r2, z0, z1, z2⟩ := cells3 HQ1.out.2.1
        rcases hxy with t1 | ⟨t1, t2⟩
        all_goals
          clear hh
          go_upto_region 4 with fail
          rw [HW2.out, HG.out]
          go_wp2_with fail
          refine bodyPost_ret (results_cell_row rfl _ _ s 65 _ (0, 0) _ rfl (put3_row HQ1.out.2.1 _ _ _) Tryd.underlying65 rfl size_known) rfl ?_
          refine ⟨?_, HQ1.out.put _ _ _⟩
          unfold knownV findK
          rw [findL_here tabK b j _ HN.out HK.out HH.out]
      · have t1 : (b == x) = false := by simp [hitK] at hh; simpa using hh.1
        have t2 : (b == y) = false := by simp [hitK] at hh; simpa using hh.2
        have HH : Hid (hitK b (x, y, n) = false) := Lib.hid (by simpa using hh)
        clear hh
        go_upto_region 4 with fail
        rw [HW2.out, HG.out]
        go_wp2_with fail
        go_roundw
        case rel =>
          refine ⟨j + 1, by omega, by go_num, HQ1.out, fun m hm => ?_⟩
          rw [List.take_add_one, HK.out] at hm
          rcases List.mem_append.1 hm with hm | hm
          · exact HN.out m hm
          · obtain rfl : m = (x, y, n) := by simpa using hm
            exact HH.out
        case measure => simp [intOf]; omega
    · obtain rfl : j = 8 := by omega
      obtain ⟨r0, r1, r2, z0, z1, z2⟩ := cells3 HQ.out.2.1
      go_wp2_with fail
      refine bodyPost_ret (results_cell_row rfl _ _ s 65 _ (0, 0) _ rfl (put3_row HQ.out.2.1 _ _ _) Tryd.underlying65 rfl size_known) rfl ?_
      refine ⟨?_, HQ.out.put _ _ _⟩
      unfold knownV findK
      rw [findL_none tabK b (by simpa [tabK] using HN.out)]
end Go.Proofs.YtmmgebiojpnhcaaDoor.Cmd
