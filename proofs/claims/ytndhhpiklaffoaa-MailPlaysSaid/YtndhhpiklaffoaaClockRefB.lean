/-
  The reference's clock: contract of its Drop.
-/
import Derived.Test.YtndhhpiklaffoaaClockRefA
import Derived.Laws.Rows
namespace Go.Proofs.Ytndhhpiklaffoaa.Clock
open Go.RowKit
open Mail (Turn ret_int ret_bool sameInts_any RowOf ownsRow_base info_int)
set_option linter.unusedVariables false

theorem info_ra : (Try.prog.info? 75).map (fun i => (i.zero, i.size, i.bytes)) = some (some (.agg #[.int .i64 0, .int .i64 0]), 2, 16) := by kernel_rfl
theorem size_rc : (Try.prog.info? 60).map (·.size) = some 2 := by kernel_rfl
theorem flatR_nil : flatR [] = [] := rfl
theorem RefRow.nil {base : Nat} {w : World} (h : base ≤ w.heap.size) : RefRow base (w.alloc (.cells #[] 75)) (.slice (some ⟨w.heap.size, 0, none⟩) 0 0) [] :=
  ⟨rfl, .inr ⟨w.heap.size, 0, #[], rfl, h, heap_alloc_new w _, by simp, by simp [maxLen], rfl, by simp; rfl⟩⟩
theorem RefRow.slice {base : Nat} {w : World} {v : Value} {R : List (Int × Int)} (h : RefRow base w v R) : ∃ a m cap, v = .slice a m cap := by
  rcases h.2 with ⟨rfl, _⟩ | ⟨g, cap, cur, rfl, _⟩
  · exact ⟨_, _, _, rfl⟩
  · exact ⟨_, _, _, rfl⟩
/-- What Drop holds: its argument in block s, its result in the next, its row behind. -/
structure DS (s : Nat) (w : World) (now : Int) (c0 v : Value) (A : List (Int × Int)) (wr : World) : Prop where
  box : wr.heap[s]? = some (.cells #[.int .i64 now, c0] 60 (0, 0))
  res : wr.heap[s + 1]? = some (.cells #[.int .i64 0, .slice none 0 0] 60 (0, 0))
  row : RefRow (s + 2) wr v A
  old : Below s w wr
theorem DS.lt {s : Nat} {w : World} {now : Int} {c0 v : Value} {A : List (Int × Int)} {wr : World} (h : DS s w now c0 v A wr) : s + 2 ≤ wr.heap.size := by have := lt_of_block h.res; omega
theorem DS.grown {s : Nat} {w : World} {now : Int} {c0 v v' : Value} {A : List (Int × Int)} {p : Int × Int} {wr w5 : World} {o : Obj} (h : DS s w now c0 v A wr) (hown : w5.ownsRow (s + 2) 75 2 v' (A.length + 1) (flatR A ++ [.int .i64 p.2, .int .i64 p.1])) (hg : (wr.alloc o).grownBy w5 v.ownBlock) : DS s w now c0 v' (A ++ [p]) w5 := by
  have hl := h.lt
  have hne : ∀ r, v.ownBlock = some r → s + 2 ≤ r := fun r e => by
    rcases h.row.2 with ⟨rfl, _⟩ | ⟨g, cap, cur, rfl, hg', _, _⟩
    · cases e
    · obtain rfl : r = g := by simpa [Value.ownBlock, eq_comm] using e
      exact hg'
  have e : ∀ k, k < s + 2 → w5.heap[k]? = wr.heap[k]? := fun k hk =>
    (hg.block k (by rw [World.size_alloc]; omega) (fun e => by have := hne k e.symm; omega)).trans (Below.heap_alloc _ _ _ (by omega))
  refine ⟨(e s (by omega)).trans h.box, (e (s + 1) (by omega)).trans h.res, ?_, ?_⟩
  · unfold RefRow
    rw [List.length_append, flatR_append]
    exact hown
  · exact (h.old.alloc (by omega) o).grown hg (by rw [World.size_alloc]; omega) (fun r e => by have := hne r e; omega)
/-- What Drop's loop knows: the first k alarms were looked at. -/
def DropRel (R : List (Int × Int)) (id : Int) (n s : Nat) (w : World) (now : Int) (c0 v i : Value) (wr : World) : Prop :=
  ∃ k : Nat, k ≤ n ∧ i = .int .i64 k ∧ DS s w now c0 v (dropL (R.take k) id) wr
/-- .. of no alarms. -/
def NilRel (s : Nat) (w : World) (now : Int) (v i : Value) (wr : World) : Prop := v = .slice (some ⟨s + 1 + 1, 0, none⟩) 0 0 ∧ i = .int .i64 0 ∧ DS s w now (.slice none 0 0) (.slice (some ⟨s + 1 + 1, 0, none⟩) 0 0) [] wr
theorem DS.end {s : Nat} {w : World} {now : Int} {c0 v : Value} {A : List (Int × Int)} {wr : World} (h : DS s w now c0 v A wr) (hs : s = w.heap.size) :
    RefRow s (((wr.setCell ⟨s, 1, none⟩ v).setCell ⟨s + 1, 0, none⟩ (.int .i64 now)).setCell ⟨s + 1, 1, none⟩ v) v A ∧ Below s w (((wr.setCell ⟨s, 1, none⟩ v).setCell ⟨s + 1, 0, none⟩ (.int .i64 now)).setCell ⟨s + 1, 1, none⟩ v) := by
  refine ⟨?_, ((h.old.setCell (Nat.le_refl _) _).setCell (by show s ≤ s + 1; omega) _).setCell (by show s ≤ s + 1; omega) _⟩
  refine ⟨h.row.1, ?_⟩
  rcases h.row.2 with h0 | ⟨g, cap, cur, rfl, hg', hgb, rest⟩
  · exact .inl h0
  · refine .inr ⟨g, cap, cur, rfl, by omega, ?_, rest⟩
    rw [Below.heap_setCell _ _ _ _ (by show g ≠ s + 1; omega), Below.heap_setCell _ _ _ _ (by show g ≠ s + 1; omega), Below.heap_setCell _ _ _ _ (by show g ≠ s; omega)]
    exact hgb

theorem ds_new {s : Nat} {w W0 : World} (now : Int) (c0 : Value) (hs : s = w.heap.size) (hW : W0 = ((w.alloc (.cells #[.int .i64 now, c0] 60)).alloc (.cells #[.int .i64 0, .slice none 0 0] 60)).alloc (.cells #[] 75)) :
    DS s w now c0 (.slice (some ⟨s + 1 + 1, 0, none⟩) 0 0) [] W0 := by
  have z1 : ∀ o, (w.alloc o).heap.size = s + 1 := fun o => by rw [World.size_alloc, hs]
  have z2 : ∀ o o', ((w.alloc o).alloc o').heap.size = s + 1 + 1 := fun o o' => by rw [World.size_alloc, z1]
  refine ⟨?_, ?_, ?_, ?_⟩
  · rw [hW, Below.heap_alloc _ _ _ (by rw [z2]; omega), Below.heap_alloc _ _ _ (by rw [z1]; omega), hs]
    exact heap_alloc_new w _
  · rw [hW, Below.heap_alloc _ _ _ (by rw [z2]; omega)]
    have := heap_alloc_new (w.alloc (.cells #[.int .i64 now, c0] 60)) (.cells #[.int .i64 0, .slice none 0 0] 60)
    rw [z1] at this
    exact this
  · have := RefRow.nil (base := s + 2) (w := (w.alloc (.cells #[.int .i64 now, c0] 60)).alloc (.cells #[.int .i64 0, .slice none 0 0] 60)) (by rw [z2]; omega)
    rw [z2, ← hW] at this
    exact this
  · rw [hW, hs]
    exact (((Below.refl _ w).alloc (Nat.le_refl _) _).alloc (by simp) _).alloc (by simp; omega) _
set_option maxRecDepth 100000 in
set_option maxHeartbeats 4000000 in
theorem rdrop_any (base : Nat) (now id : Int) (v : Value) (R : List (Int × Int)) (w : World) (h : RefRow base w v R) (hl : R.length ≤ 200) :
    Calls Try.prog 30 #[.agg #[.int .i64 now, v], .int .i64 id] w fun e w' => ∃ v', e = .returned (.agg #[.int .i64 now, v']) ∧ RefRow w.heap.size w' v' (dropL R id) ∧ Below w.heap.size w w' := by
  obtain ⟨i0, hi, hz0, hz1, hz2⟩ := info_parts info_ra
  have hz := (zero_of_info info_rc).1
  rcases h.lit with ⟨rfl, rfl⟩ | ⟨g, cap, rfl, hbg, hgw, hc⟩
  · obtain ⟨s, hs⟩ : ∃ s, s = w.heap.size := ⟨_, rfl⟩
    obtain ⟨W0, hW⟩ : ∃ W0, W0 = ((w.alloc (.cells #[.int .i64 now, .slice none 0 0] 60)).alloc (.cells #[.int .i64 0, .slice none 0 0] 60)).alloc (.cells #[] 75) := ⟨_, rfl⟩
    have D0 := ds_new now (.slice none 0 0) hs hW
    have HW := Lib.hid hW.symm
    have HS := Lib.hid hs.symm
    have HD := Lib.hid D0
    clear hW D0 hs
    go_enter Try.func30, Try.ntmps30
    go_wp2_with fail
    rw [HW.out, HS.out]
    go_loopw [5, 6] (fun v i wr => NilRel s w now v i wr) (fun _ _ _ => 0)
    case atStart => exact ⟨rfl, rfl, HD.out⟩
    case round =>
      obtain ⟨rfl, rfl, D⟩ := hrel
      clear HD
      have HD := Lib.hid D
      have c0 : wr.cell? ⟨s, 0, none⟩ = some (.int .i64 now) := by simp [World.cell?, D.box]
      have c1 : wr.cell? ⟨s, 1, none⟩ = some (.slice none 0 0) := by simp [World.cell?, D.box]
      have hsl := D.lt
      clear D
      obtain ⟨he1, he2⟩ := HD.out.end HS.out.symm
      have HE1 := Lib.hid he1
      have HE2 := Lib.hid he2
      have fb : ∀ o, wr.frozen? ⟨s, o, none⟩ = false := fun o => by simp [World.frozen?, HD.out.box]
      have fr : ∀ o, wr.frozen? ⟨s + 1, o, none⟩ = false := fun o => by simp [World.frozen?, HD.out.res]
      have r0 : wr.cell? ⟨s + 1, 0, none⟩ = some (.int .i64 0) := by simp [World.cell?, HD.out.res]
      have r1 : wr.cell? ⟨s + 1, 1, none⟩ = some (.slice none 0 0) := by simp [World.cell?, HD.out.res]
      clear he1 he2
      have hfin : (((wr.setCell ⟨s, 1, none⟩ (.slice (some ⟨s + 1 + 1, 0, none⟩) 0 0)).setCell ⟨s + 1, 0, none⟩ (.int .i64 now)).setCell ⟨s + 1, 1, none⟩ (.slice (some ⟨s + 1 + 1, 0, none⟩) 0 0)).heap[s + 1]? = some (.cells #[.int .i64 now, .slice (some ⟨s + 1 + 1, 0, none⟩) 0 0] 60 (0, 0)) := by
        have e0 : (wr.setCell ⟨s, 1, none⟩ (.slice (some ⟨s + 1 + 1, 0, none⟩) 0 0)).heap[s + 1]? = some (.cells #[.int .i64 0, .slice none 0 0] 60 (0, 0)) := (Below.heap_setCell _ _ _ _ (by show s + 1 ≠ s; omega)).trans HD.out.res
        exact heap_set (heap_set e0 0 (.int .i64 now)) 1 (.slice (some ⟨s + 1 + 1, 0, none⟩) 0 0)
      have HFIN := Lib.hid hfin
      clear hfin
      go_wp2_with fail
      (try simp only [Exit.inBlock, Exit.then])
      refine bodyPost_ret (results_cell_row rfl _ _ (s + 1) 60 _ (0, 0) _ rfl HFIN.out Try.underlying60 rfl size_rc) rfl ?_
      rw [HS.out]
      exact ⟨_, rfl, HE1.out, HE2.out⟩
  · obtain ⟨n, hn⟩ : ∃ n, n = R.length := ⟨_, rfl⟩
    rw [← hn]
    have hn200 : n ≤ 200 := by omega
    have HN := Lib.hid hn
    have HC := Lib.hid hc
    clear h hc hn hl
    obtain ⟨s, hs⟩ : ∃ s, s = w.heap.size := ⟨_, rfl⟩
    obtain ⟨W0, hW⟩ : ∃ W0, W0 = ((w.alloc (.cells #[.int .i64 now, .slice (some ⟨g, 0, none⟩) n cap] 60)).alloc (.cells #[.int .i64 0, .slice none 0 0] 60)).alloc (.cells #[] 75) := ⟨_, rfl⟩
    have D0 := ds_new now (.slice (some ⟨g, 0, none⟩) n cap) hs hW
    have HW := Lib.hid hW.symm
    have HS := Lib.hid hs.symm
    have HD0 := Lib.hid D0
    clear hW D0 hs
    go_enter Try.func30, Try.ntmps30
    go_wp2_with fail
    rw [HW.out, HS.out]
    go_loopw [5, 6] (fun v i wr => DropRel R id n s w now (.slice (some ⟨g, 0, none⟩) n cap) v i wr) (fun _ i _ => n - (intOf i).toNat)
    case atStart => exact ⟨0, by omega, rfl, by simpa [dropL] using HD0.out⟩
    case round =>
      obtain ⟨k, hk, rfl, D⟩ := hrel
      have HD := Lib.hid D
      have c0 : wr.cell? ⟨s, 0, none⟩ = some (.int .i64 now) := by simp [World.cell?, D.box]
      have c1 : wr.cell? ⟨s, 1, none⟩ = some (.slice (some ⟨g, 0, none⟩) n cap) := by simp [World.cell?, D.box]
      have hsl := D.lt
      clear D
      by_cases hkn : k < n
      · have hkR : k < R.length := by have := HN.out; omega
        obtain ⟨h1, h2⟩ := HC.out k hkR
        have d1 := (HD.out.old.cell (p := ⟨g, k * 2, none⟩) (by show g < s; rw [← HS.out]; exact hgw)).trans h1
        have d2 := (HD.out.old.cell (p := ⟨g, k * 2 + 1, none⟩) (by show g < s; rw [← HS.out]; exact hgw)).trans h2
        obtain ⟨p, hp⟩ : ∃ p, p = R.getD k (0, 0) := ⟨_, rfl⟩
        rw [← hp] at d1 d2
        have htk : R.take (k + 1) = R.take k ++ [p] := by
          rw [List.take_succ_eq_append_getElem hkR, hp]
          simp [List.getD, hkR]
        obtain ⟨p1, p2⟩ := p
        have HTK := Lib.hid htk
        clear hp h1 h2 htk
        by_cases he : p2 = id
        · have hef : (p2 != id) = false := by simpa using he
          have hdr : dropL (R.take (k + 1)) id = dropL (R.take k) id := by rw [HTK.out]; unfold dropL; rw [List.filter_append]; simp [he]
          have HDR := Lib.hid hdr
          clear hdr
          go_wp2
          go_roundw
          case rel => exact ⟨k + 1, by omega, by go_num, by rw [HDR.out]; exact HD.out⟩
          case measure => simp [intOf]; omega
        · have hef : (p2 != id) = true := by simpa using he
          have hdr : dropL (R.take (k + 1)) id = dropL (R.take k) id ++ [(p1, p2)] := by rw [HTK.out]; unfold dropL; rw [List.filter_append]; simp [he]
          have HDR := Lib.hid hdr
          have hal : (dropL (R.take k) id).length ≤ k := Nat.le_trans (List.length_filter_le _ _) (by simp; omega)
          have hown := HD.out.row
          unfold RefRow at hown
          obtain ⟨A, hA⟩ : ∃ A, A = dropL (R.take k) id := ⟨_, rfl⟩
          rw [← hA] at hown hal HDR HD
          have hcl : ∀ (j : Nat) (u : Value), ([.int .i64 p2, .int .i64 p1] : List Value)[j]? = some u → (wr.alloc (.cells #[.int .i64 p2, .int .i64 p1] 75)).cell? ((⟨wr.heap.size, 0, none⟩ : Addr).add j) = some u := by
            intro j u hu
            match j, hu with
            | 0, hu => simp at hu; subst hu; simp [go_sem, Addr.add]
            | 1, hu => simp at hu; subst hu; simp [go_sem, Addr.add]
          have HCL := Lib.hid hcl
          clear hdr hA hcl
          go_wp2_with (at_builtin; refine wpList_append_own _ rfl _ _ 58 rfl (s + 2) 75 i0 (.agg #[.int .i64 0, .int .i64 0]) 2 16 Try.underlying58 hi hz0 hz1 hz2 rfl (by decide) _ _ _ rfl (hown.alloc _) ⟨wr.heap.size, 0, none⟩ 1 1 [.int .i64 p2, .int .i64 p1] rfl rfl HCL.out (by simp [Value.oneCell']) (by unfold maxLen; omega) (by omega) (by rw [World.size_alloc]; omega) ?_; intro v' w5 hown' hgrow _; have HD5 := Lib.hid (HD.out.grown (p := (p1, p2)) hown' hgrow); clear hgrow hown)
          go_roundw
          case rel => exact ⟨k + 1, by omega, by go_num, by rw [HDR.out]; exact HD5.out⟩
          case measure => simp [intOf]; omega
      · obtain rfl : k = n := by omega
        obtain ⟨va, vm, vc, rfl⟩ := HD.out.row.slice
        obtain ⟨he1, he2⟩ := HD.out.end HS.out.symm
        have HE1 := Lib.hid he1
        have HE2 := Lib.hid he2
        have htk : R.take k = R := List.take_of_length_le (by have := HN.out; omega)
        have HTK := Lib.hid htk
        have fb : ∀ o, wr.frozen? ⟨s, o, none⟩ = false := fun o => by simp [World.frozen?, HD.out.box]
        have fr : ∀ o, wr.frozen? ⟨s + 1, o, none⟩ = false := fun o => by simp [World.frozen?, HD.out.res]
        have r0 : wr.cell? ⟨s + 1, 0, none⟩ = some (.int .i64 0) := by simp [World.cell?, HD.out.res]
        have r1 : wr.cell? ⟨s + 1, 1, none⟩ = some (.slice none 0 0) := by simp [World.cell?, HD.out.res]
        clear he1 he2 htk
        have hfin : (((wr.setCell ⟨s, 1, none⟩ (.slice va vm vc)).setCell ⟨s + 1, 0, none⟩ (.int .i64 now)).setCell ⟨s + 1, 1, none⟩ (.slice va vm vc)).heap[s + 1]? = some (.cells #[.int .i64 now, .slice va vm vc] 60 (0, 0)) := by
          have e0 : (wr.setCell ⟨s, 1, none⟩ (.slice va vm vc)).heap[s + 1]? = some (.cells #[.int .i64 0, .slice none 0 0] 60 (0, 0)) := (Below.heap_setCell _ _ _ _ (by show s + 1 ≠ s; omega)).trans HD.out.res
          exact heap_set (heap_set e0 0 (.int .i64 now)) 1 (.slice va vm vc)
        have HFIN := Lib.hid hfin
        clear hfin
        go_wp2_with fail
        (try simp only [Exit.inBlock, Exit.then])
        refine bodyPost_ret (results_cell_row rfl _ _ (s + 1) 60 _ (0, 0) _ rfl HFIN.out Try.underlying60 rfl size_rc) rfl ?_
        rw [HS.out]
        exact ⟨_, rfl, by rw [← HTK.out]; exact HE1.out, HE2.out⟩
end Go.Proofs.Ytndhhpiklaffoaa.Clock
