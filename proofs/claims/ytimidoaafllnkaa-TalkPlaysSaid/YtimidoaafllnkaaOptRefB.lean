/-
  The reference's options: contracts of its set and word.
-/
import Derived.Test.YtimidoaafllnkaaOptRefA
import Derived.Deep.WholeRow
namespace Go.Proofs.Ytimidoaafllnkaa.Opt
open Go.RowKit Base
set_option linter.unusedVariables false

theorem info_one : (Try.prog.info? 127).map (fun i => (i.zero, i.size, i.bytes)) = some (some (.agg #[.bool false, .int .u8 0, .int .i64 0]), 3, 16) := by kernel_rfl
theorem size_ro : (Try.prog.info? 46).map (·.size) = some 3 := by kernel_rfl
theorem info_ro : (Try.prog.info? 46).map (fun i => (i.zero, i.size)) = some (some (.agg #[.slice none 0 0, .slice none 0 0, .slice none 0 0]), 3) := by kernel_rfl
def dropO (L : List One) (ours : Bool) (o : Nat) : List One := L.filter fun p => !isKey ours o p
def setL (L : List One) (ours : Bool) (o st : Nat) : List One := dropO L ours o ++ if st = 0 then [] else [(ours, o, st)]
theorem OneRow.nil {base : Nat} {w : World} (h : base ≤ w.heap.size) : OneRow base (w.alloc (.cells #[] 127)) (.slice (some ⟨w.heap.size, 0, none⟩) 0 0) [] :=
  ⟨rfl, .inr ⟨w.heap.size, 0, #[], rfl, h, heap_alloc_new w _, by simp, by simp [maxLen], rfl, by simp; rfl⟩⟩
/-- What set holds: its argument in block s, its result in the next, its row behind. -/
structure SS (s : Nat) (w : World) (y z c0 v : Value) (A : List One) (wr : World) : Prop where
  box : wr.heap[s]? = some (.cells #[c0, y, z] 46 (0, 0))
  res : wr.heap[s + 1]? = some (.cells #[.slice none 0 0, .slice none 0 0, .slice none 0 0] 46 (0, 0))
  row : OneRow (s + 2) wr v A
  old : Below s w wr
theorem SS.lt {s : Nat} {w : World} {y z c0 v : Value} {A : List One} {wr : World} (h : SS s w y z c0 v A wr) : s + 2 ≤ wr.heap.size := by have := lt_of_block h.res; omega
theorem own_first {base : Nat} {w : World} {v : Value} {L : List One} (h : OneRow base w v L) : ∀ r, v.ownBlock = some r → base ≤ r := fun r e => by
  rcases h.2 with ⟨rfl, _⟩ | ⟨g, cap, cur, rfl, hg', _, _⟩
  · cases e
  · obtain rfl : r = g := by simpa [Value.ownBlock, eq_comm] using e
    exact hg'
theorem SS.grown {s : Nat} {w : World} {y z c0 v v' : Value} {A : List One} {p : One} {wr w5 : World} {o : Obj} (h : SS s w y z c0 v A wr) (hown : w5.ownsRow (s + 2) 127 3 v' (A.length + 1) (flatO A ++ [.bool p.1, .int .u8 p.2.1, .int .i64 p.2.2])) (hg : (wr.alloc o).grownBy w5 v.ownBlock) : SS s w y z c0 v' (A ++ [p]) w5 := by
  have hl := h.lt
  have hne := own_first h.row
  have e : ∀ k, k < s + 2 → w5.heap[k]? = wr.heap[k]? := fun k hk =>
    (hg.block k (by rw [World.size_alloc]; omega) (fun e => by have := hne k e.symm; omega)).trans (Below.heap_alloc _ _ _ (by omega))
  refine ⟨(e s (by omega)).trans h.box, (e (s + 1) (by omega)).trans h.res, ?_, ?_⟩
  · unfold OneRow
    rw [List.length_append, flatO_append]
    exact hown
  · exact (h.old.alloc (by omega) o).grown hg (by rw [World.size_alloc]; omega) (fun r e => by have := hne r e; omega)
def SetRel (L : List One) (ours : Bool) (o n s : Nat) (w : World) (y z c0 v i : Value) (wr : World) : Prop :=
  ∃ k : Nat, k ≤ n ∧ i = .int .i64 k ∧ SS s w y z c0 v (dropO (L.take k) ours o) wr
theorem SS.end {s : Nat} {w : World} {y z c0 v : Value} {A : List One} {wr : World} (h : SS s w y z c0 v A wr) (hs : s = w.heap.size) :
    OneRow s ((((wr.setCell ⟨s, 0, none⟩ v).setCell ⟨s + 1, 0, none⟩ v).setCell ⟨s + 1, 1, none⟩ y).setCell ⟨s + 1, 2, none⟩ z) v A ∧ Below s w ((((wr.setCell ⟨s, 0, none⟩ v).setCell ⟨s + 1, 0, none⟩ v).setCell ⟨s + 1, 1, none⟩ y).setCell ⟨s + 1, 2, none⟩ z) := by
  refine ⟨?_, (((h.old.setCell (Nat.le_refl _) _).setCell (by show s ≤ s + 1; omega) _).setCell (by show s ≤ s + 1; omega) _).setCell (by show s ≤ s + 1; omega) _⟩
  refine (h.row.keep fun g hg hl => ?_).base (by omega)
  rw [Below.heap_setCell _ _ _ _ (by show g ≠ s + 1; omega), Below.heap_setCell _ _ _ _ (by show g ≠ s + 1; omega), Below.heap_setCell _ _ _ _ (by show g ≠ s + 1; omega), Below.heap_setCell _ _ _ _ (by show g ≠ s; omega)]
theorem ss_new {s : Nat} {w W0 : World} (y z c0 : Value) (hs : s = w.heap.size) (hW : W0 = ((w.alloc (.cells #[c0, y, z] 46)).alloc (.cells #[.slice none 0 0, .slice none 0 0, .slice none 0 0] 46)).alloc (.cells #[] 127)) :
    SS s w y z c0 (.slice (some ⟨s + 1 + 1, 0, none⟩) 0 0) [] W0 := by
  have z1 : ∀ o, (w.alloc o).heap.size = s + 1 := fun o => by rw [World.size_alloc, hs]
  have z2 : ∀ o o', ((w.alloc o).alloc o').heap.size = s + 1 + 1 := fun o o' => by rw [World.size_alloc, z1]
  refine ⟨?_, ?_, ?_, ?_⟩
  · rw [hW, Below.heap_alloc _ _ _ (by rw [z2]; omega), Below.heap_alloc _ _ _ (by rw [z1]; omega), hs]
    exact heap_alloc_new w _
  · rw [hW, Below.heap_alloc _ _ _ (by rw [z2]; omega)]
    have := heap_alloc_new (w.alloc (.cells #[c0, y, z] 46)) (.cells #[.slice none 0 0, .slice none 0 0, .slice none 0 0] 46)
    rw [z1] at this
    exact this
  · have := OneRow.nil (base := s + 2) (w := (w.alloc (.cells #[c0, y, z] 46)).alloc (.cells #[.slice none 0 0, .slice none 0 0, .slice none 0 0] 46)) (by rw [z2]; omega)
    rw [z2, ← hW] at this
    exact this
  · rw [hW, hs]
    exact (((Below.refl _ w).alloc (Nat.le_refl _) _).alloc (by simp) _).alloc (by simp; omega) _
theorem one_cl (w : World) (a : Bool) (b c : Int) : ∀ (j : Nat) (u : Value), ([.bool a, .int .u8 b, .int .i64 c] : List Value)[j]? = some u → (w.alloc (.cells #[.bool a, .int .u8 b, .int .i64 c] 127)).cell? ((⟨w.heap.size, 0, none⟩ : Addr).add j) = some u := by
  intro j u hu
  match j, hu with
  | 0, hu => simp at hu; subst hu; simp [go_sem, Addr.add]
  | 1, hu => simp at hu; subst hu; simp [go_sem, Addr.add]
  | 2, hu => simp at hu; subst hu; simp [go_sem, Addr.add]
set_option maxRecDepth 100000 in
set_option maxHeartbeats 4000000 in
theorem rset_any (base : Nat) (v : Value) (ya za : Option Addr) (yn yc zn zc : Nat) (L : List One) (ours : Bool) (o st : Nat) (w : World) (h : OneRow base w v L) (hl : L.length ≤ 200) (hst : st ≤ 5) :
    Calls Try.prog 77 #[.agg #[v, .slice ya yn yc, .slice za zn zc], .bool ours, .int .u8 o, .int .i64 st] w fun e w' => ∃ v', e = .returned (.agg #[v', .slice ya yn yc, .slice za zn zc]) ∧ OneRow w.heap.size w' v' (setL L ours o st) ∧ Below w.heap.size w w' := by
  obtain ⟨i0, hi, hz0, hz1, hz2⟩ := info_parts info_one
  have hz := (zero_of_info info_ro).1
  obtain ⟨a, cap, rfl, hrow⟩ := h.read
  obtain ⟨n, hn⟩ : ∃ n, n = L.length := ⟨_, rfl⟩
  rw [← hn] at hl ⊢
  obtain ⟨s, hs⟩ : ∃ s, s = w.heap.size := ⟨_, rfl⟩
  obtain ⟨W0, hW⟩ : ∃ W0, W0 = ((w.alloc (.cells #[.slice a n cap, .slice ya yn yc, .slice za zn zc] 46)).alloc (.cells #[.slice none 0 0, .slice none 0 0, .slice none 0 0] 46)).alloc (.cells #[] 127) := ⟨_, rfl⟩
  have D0 := ss_new (.slice ya yn yc) (.slice za zn zc) (.slice a n cap) hs hW
  have HN := Lib.hid hn
  have HR := Lib.hid hrow
  have HW := Lib.hid hW.symm
  have HS := Lib.hid hs.symm
  have HD0 := Lib.hid D0
  clear hW D0 hs hn hrow h
  go_enter Try.func77, Try.ntmps77
  go_wp2_with fail
  rw [HW.out, HS.out]
  go_loopw [9, 10] (fun v i wr => SetRel L ours o n s w (.slice ya yn yc) (.slice za zn zc) (.slice a n cap) v i wr) (fun _ i _ => n - (intOf i).toNat)
  case atStart => exact ⟨0, by omega, rfl, by simpa [dropO] using HD0.out⟩
  case round =>
    obtain ⟨k, hk, rfl, D⟩ := hrel
    have HD := Lib.hid D
    have c0 : wr.cell? ⟨s, 0, none⟩ = some (.slice a n cap) := by simp [World.cell?, D.box]
    have c1 : wr.cell? ⟨s, 1, none⟩ = some (.slice ya yn yc) := by simp [World.cell?, D.box]
    have c2 : wr.cell? ⟨s, 2, none⟩ = some (.slice za zn zc) := by simp [World.cell?, D.box]
    have hsl := D.lt
    clear D
    by_cases hkn : k < n
    · have hkl : k < L.length := by rw [← HN.out]; exact hkn
      obtain ⟨g, rfl, _, hgw, hc⟩ := HR.out (by intro e; rw [e] at hkl; simp at hkl)
      obtain ⟨q, hq⟩ : ∃ q, L[k]? = some q := ⟨_, List.getElem?_eq_getElem hkl⟩
      have htk : L.take (k + 1) = L.take k ++ [q] := by
        rw [List.take_succ_eq_append_getElem hkl]
        obtain ⟨_, e⟩ := List.getElem?_eq_some_iff.1 hq
        rw [e]
      obtain ⟨p1, p2, p3⟩ := q
      obtain ⟨d0, d1, d2⟩ := hc k _ hq
      simp only at d0 d1 d2
      have hgs : g < s := by rw [← HS.out]; exact hgw
      have d0 := (HD.out.old.cell (p := ⟨g, k * 3, none⟩) hgs).trans d0
      have d1 := (HD.out.old.cell (p := ⟨g, k * 3 + 1, none⟩) hgs).trans d1
      have d2 := (HD.out.old.cell (p := ⟨g, k * 3 + 2, none⟩) hgs).trans d2
      have HTK := Lib.hid htk
      clear hc hkl hq htk
      by_cases hkey : isKey ours o (p1, p2, p3) = true
      · have hdr : dropO (L.take (k + 1)) ours o = dropO (L.take k) ours o := by rw [HTK.out]; unfold dropO; rw [List.filter_append]; simp [hkey]
        have HDR := Lib.hid hdr
        obtain ⟨e1, e2⟩ : p1 = ours ∧ p2 = o := by simpa [isKey] using hkey
        clear hdr hkey
        subst e1 e2
        have t1 : (p1 != p1) = false := by simp
        go_wp2
        go_roundw
        case rel => exact ⟨k + 1, by omega, by go_num, by rw [HDR.out]; exact HD.out⟩
        case measure => simp [intOf]; omega
      · have hdr : dropO (L.take (k + 1)) ours o = dropO (L.take k) ours o ++ [(p1, p2, p3)] := by rw [HTK.out]; unfold dropO; rw [List.filter_append]; simp [hkey]
        have HDR := Lib.hid hdr
        have hal : (dropO (L.take k) ours o).length ≤ k := Nat.le_trans (List.length_filter_le _ _) (by simp; omega)
        have hown := HD.out.row
        unfold OneRow at hown
        obtain ⟨A, hA⟩ : ∃ A, A = dropO (L.take k) ours o := ⟨_, rfl⟩
        rw [← hA] at hown hal HDR HD
        have HCL := Lib.hid (one_cl wr p1 p2 p3)
        have hne : (p1 != ours) = true ∨ p1 = ours ∧ ((p2 : Int) != (o : Int)) = true := by
          by_cases e : p1 = ours
          · subst e
            refine .inr ⟨rfl, ?_⟩
            simp [isKey] at hkey
            simp; omega
          · exact .inl (by simpa using e)
        clear hdr hA hkey
        rcases hne with t1 | ⟨e, t2⟩
        · have hpq : (p1 = true ∧ ours = false) ∨ (p1 = false ∧ ours = true) := by
            cases p1 <;> cases ours <;> simp at t1 ⊢
          clear t1
          rcases hpq with ⟨rfl, rfl⟩ | ⟨rfl, rfl⟩
          · skip
            go_wp2_with (at_builtin; refine wpList_append_own _ rfl _ _ 44 rfl (s + 2) 127 i0 (.agg #[.bool false, .int .u8 0, .int .i64 0]) 3 16 Try.underlying44 hi hz0 hz1 hz2 rfl (by decide) _ _ _ rfl (hown.alloc _) ⟨wr.heap.size, 0, none⟩ 1 1 [.bool true, .int .u8 p2, .int .i64 p3] rfl rfl HCL.out (by simp [Value.oneCell']) (by unfold maxLen; omega) (by omega) (by rw [World.size_alloc]; omega) ?_; intro v' w5 hown' hgrow _; have HD5 := Lib.hid (HD.out.grown (p := (true, p2, p3)) hown' hgrow); clear hgrow hown)
            go_roundw
            case rel => exact ⟨k + 1, by omega, by go_num, by rw [HDR.out]; exact HD5.out⟩
            case measure => simp [intOf]; omega
          · skip
            go_wp2_with (at_builtin; refine wpList_append_own _ rfl _ _ 44 rfl (s + 2) 127 i0 (.agg #[.bool false, .int .u8 0, .int .i64 0]) 3 16 Try.underlying44 hi hz0 hz1 hz2 rfl (by decide) _ _ _ rfl (hown.alloc _) ⟨wr.heap.size, 0, none⟩ 1 1 [.bool false, .int .u8 p2, .int .i64 p3] rfl rfl HCL.out (by simp [Value.oneCell']) (by unfold maxLen; omega) (by omega) (by rw [World.size_alloc]; omega) ?_; intro v' w5 hown' hgrow _; have HD5 := Lib.hid (HD.out.grown (p := (false, p2, p3)) hown' hgrow); clear hgrow hown)
            go_roundw
            case rel => exact ⟨k + 1, by omega, by go_num, by rw [HDR.out]; exact HD5.out⟩
            case measure => simp [intOf]; omega
        · have hpq : (p1 = true ∧ ours = true) ∨ (p1 = false ∧ ours = false) := by
            subst e
            cases p1 <;> simp
          clear e
          rcases hpq with ⟨rfl, rfl⟩ | ⟨rfl, rfl⟩
          · skip
            go_wp2_with (at_builtin; refine wpList_append_own _ rfl _ _ 44 rfl (s + 2) 127 i0 (.agg #[.bool false, .int .u8 0, .int .i64 0]) 3 16 Try.underlying44 hi hz0 hz1 hz2 rfl (by decide) _ _ _ rfl (hown.alloc _) ⟨wr.heap.size, 0, none⟩ 1 1 [.bool true, .int .u8 p2, .int .i64 p3] rfl rfl HCL.out (by simp [Value.oneCell']) (by unfold maxLen; omega) (by omega) (by rw [World.size_alloc]; omega) ?_; intro v' w5 hown' hgrow _; have HD5 := Lib.hid (HD.out.grown (p := (true, p2, p3)) hown' hgrow); clear hgrow hown)
            go_roundw
            case rel => exact ⟨k + 1, by omega, by go_num, by rw [HDR.out]; exact HD5.out⟩
            case measure => simp [intOf]; omega
          · skip
            go_wp2_with (at_builtin; refine wpList_append_own _ rfl _ _ 44 rfl (s + 2) 127 i0 (.agg #[.bool false, .int .u8 0, .int .i64 0]) 3 16 Try.underlying44 hi hz0 hz1 hz2 rfl (by decide) _ _ _ rfl (hown.alloc _) ⟨wr.heap.size, 0, none⟩ 1 1 [.bool false, .int .u8 p2, .int .i64 p3] rfl rfl HCL.out (by simp [Value.oneCell']) (by unfold maxLen; omega) (by omega) (by rw [World.size_alloc]; omega) ?_; intro v' w5 hown' hgrow _; have HD5 := Lib.hid (HD.out.grown (p := (false, p2, p3)) hown' hgrow); clear hgrow hown)
            go_roundw
            case rel => exact ⟨k + 1, by omega, by go_num, by rw [HDR.out]; exact HD5.out⟩
            case measure => simp [intOf]; omega
    · obtain rfl : k = n := by omega
      have htk : L.take k = L := List.take_of_length_le (by rw [← HN.out]; exact Nat.le_refl _)
      rw [htk] at HD
      clear htk
      have hal : (dropO L ours o).length ≤ k := by rw [HN.out]; exact List.length_filter_le _ _
      by_cases h0 : st = 0
      · subst h0
        have hset : setL L ours o 0 = dropO L ours o := by simp [setL]
        obtain ⟨va, vc, rfl⟩ := HD.out.row.slice
        obtain ⟨he1, he2⟩ := HD.out.end HS.out.symm
        have HE1 := Lib.hid he1
        have HE2 := Lib.hid he2
        have HSET := Lib.hid hset
        have fb : ∀ o, wr.frozen? ⟨s, o, none⟩ = false := fun o => by simp [World.frozen?, HD.out.box]
        have fr : ∀ o, wr.frozen? ⟨s + 1, o, none⟩ = false := fun o => by simp [World.frozen?, HD.out.res]
        have r0 : wr.cell? ⟨s + 1, 0, none⟩ = some (.slice none 0 0) := by simp [World.cell?, HD.out.res]
        have r1 : wr.cell? ⟨s + 1, 1, none⟩ = some (.slice none 0 0) := by simp [World.cell?, HD.out.res]
        have r2 : wr.cell? ⟨s + 1, 2, none⟩ = some (.slice none 0 0) := by simp [World.cell?, HD.out.res]
        obtain ⟨m, hm⟩ : ∃ m, m = (dropO L ours o).length := ⟨_, rfl⟩
        rw [← hm] at HE1 HE2 ⊢
        clear he1 he2 hset hal
        have hfin : ((((wr.setCell ⟨s, 0, none⟩ (.slice va m vc)).setCell ⟨s + 1, 0, none⟩ (.slice va m vc)).setCell ⟨s + 1, 1, none⟩ (.slice ya yn yc)).setCell ⟨s + 1, 2, none⟩ (.slice za zn zc)).heap[s + 1]? = some (.cells #[.slice va m vc, .slice ya yn yc, .slice za zn zc] 46 (0, 0)) := by
          have e0 : (wr.setCell ⟨s, 0, none⟩ (.slice va m vc)).heap[s + 1]? = some (.cells #[.slice none 0 0, .slice none 0 0, .slice none 0 0] 46 (0, 0)) := (Below.heap_setCell _ _ _ _ (by show s + 1 ≠ s; omega)).trans HD.out.res
          exact heap_set (heap_set (heap_set e0 0 (.slice va m vc)) 1 (.slice ya yn yc)) 2 (.slice za zn zc)
        have HFIN := Lib.hid hfin
        clear hfin
        have HM := Lib.hid hm
        clear hm
        go_wp2_with fail
        (try simp only [Exit.inBlock, Exit.then])
        refine bodyPost_ret (results_cell_row rfl _ _ (s + 1) 46 _ (0, 0) _ rfl HFIN.out Try.underlying46 rfl size_ro) rfl ?_
        rw [HS.out]
        exact ⟨_, rfl, by rw [HSET.out]; exact HE1.out, HE2.out⟩
      · have hset : setL L ours o st = dropO L ours o ++ [(ours, o, st)] := by simp [setL, h0]
        have ht0 : ((st : Int) != 0) = true := by simp; omega
        have hown := HD.out.row
        unfold OneRow at hown
        obtain ⟨A, hA⟩ : ∃ A, A = dropO L ours o := ⟨_, rfl⟩
        rw [← hA] at hown hal hset HD
        have HCL := Lib.hid (one_cl wr ours o st)
        have HSET := Lib.hid hset
        clear hA hset h0
        go_wp2_with (at_builtin; refine wpList_append_own _ rfl _ _ 44 rfl (s + 2) 127 i0 (.agg #[.bool false, .int .u8 0, .int .i64 0]) 3 16 Try.underlying44 hi hz0 hz1 hz2 rfl (by decide) _ _ _ rfl (hown.alloc _) ⟨wr.heap.size, 0, none⟩ 1 1 [.bool ours, .int .u8 o, .int .i64 st] rfl rfl HCL.out (by simp [Value.oneCell']) (by unfold maxLen; omega) (by omega) (by rw [World.size_alloc]; omega) ?_; intro v' w5 hown' hgrow _; have HD5 := Lib.hid (HD.out.grown (p := (ours, o, st)) hown' hgrow); clear hgrow hown; have fb : ∀ o, w5.frozen? ⟨s, o, none⟩ = false := fun o => by simp [World.frozen?, HD5.out.box]
                     have fr : ∀ o, w5.frozen? ⟨s + 1, o, none⟩ = false := fun o => by simp [World.frozen?, HD5.out.res]
                     have c0 : w5.cell? ⟨s, 0, none⟩ = some (.slice a k cap) := by simp [World.cell?, HD5.out.box]
                     have c1 : w5.cell? ⟨s, 1, none⟩ = some (.slice ya yn yc) := by simp [World.cell?, HD5.out.box]
                     have c2 : w5.cell? ⟨s, 2, none⟩ = some (.slice za zn zc) := by simp [World.cell?, HD5.out.box]
                     have r0 : w5.cell? ⟨s + 1, 0, none⟩ = some (.slice none 0 0) := by simp [World.cell?, HD5.out.res]
                     have r1 : w5.cell? ⟨s + 1, 1, none⟩ = some (.slice none 0 0) := by simp [World.cell?, HD5.out.res]
                     have r2 : w5.cell? ⟨s + 1, 2, none⟩ = some (.slice none 0 0) := by simp [World.cell?, HD5.out.res]
                     have hsl5 := HD5.out.lt
                     obtain ⟨va, vc, rfl⟩ := HD5.out.row.slice
                     obtain ⟨m, hm⟩ : ∃ m, m = (A ++ [(ours, o, st)]).length := ⟨_, rfl⟩
                     rw [← hm] at HD5 hown' ⊢
                     have HM := Lib.hid hm
                     clear hm hown')
        obtain ⟨he1, he2⟩ := HD5.out.end HS.out.symm
        have HE1 := Lib.hid he1
        have HE2 := Lib.hid he2
        clear he1 he2
        have hfin : ((((w5.setCell ⟨s, 0, none⟩ (.slice va m vc)).setCell ⟨s + 1, 0, none⟩ (.slice va m vc)).setCell ⟨s + 1, 1, none⟩ (.slice ya yn yc)).setCell ⟨s + 1, 2, none⟩ (.slice za zn zc)).heap[s + 1]? = some (.cells #[.slice va m vc, .slice ya yn yc, .slice za zn zc] 46 (0, 0)) := by
          have e0 : (w5.setCell ⟨s, 0, none⟩ (.slice va m vc)).heap[s + 1]? = some (.cells #[.slice none 0 0, .slice none 0 0, .slice none 0 0] 46 (0, 0)) := (Below.heap_setCell _ _ _ _ (by show s + 1 ≠ s; omega)).trans HD5.out.res
          exact heap_set (heap_set (heap_set e0 0 (.slice va m vc)) 1 (.slice ya yn yc)) 2 (.slice za zn zc)
        have HFIN := Lib.hid hfin
        clear hfin
        (try simp only [Exit.inBlock, Exit.then])
        refine bodyPost_ret (results_cell_row rfl _ _ (s + 1) 46 _ (0, 0) _ rfl HFIN.out Try.underlying46 rfl size_ro) rfl ?_
        rw [HS.out]
        exact ⟨_, rfl, by rw [HSET.out]; exact HE1.out, HE2.out⟩
/-- What is said, as the reference has it. -/
theorem rword_any (ours : Bool) (o word : Nat) (hw : word ≤ 2) (w : World) : Calls Try.prog 78 #[.bool ours, .int .u8 o, .int .i64 word] w (Tells (sayL ours word o) w) := by
  have hcase : word = 0 ∨ word = 1 ∨ word = 2 := by omega
  rcases hcase with rfl | rfl | rfl <;> cases ours
  all_goals
    go_enter Try.func78, Try.ntmps78
    go_wp2_with fail
    go_ret
    first | exact ⟨_, rfl, RowIn.nil _ _ _, Below.refl _ _⟩ | exact ⟨_, rfl, three_at w 255 _ o _, below_alloc w _⟩
end Go.Proofs.Ytimidoaafllnkaa.Opt
