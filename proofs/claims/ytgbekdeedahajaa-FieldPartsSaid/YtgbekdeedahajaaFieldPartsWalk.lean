/-
  The walk of FieldParts.
-/
import Derived.Test.YtgbekdeedahajaaFlV
namespace Go.Proofs.Ytgbekdeedahajaa.Pl
open Go.RowKit Go.Shelf Go.Maps Base
set_option linter.unusedVariables false
set_option linter.unusedSimpArgs false

theorem zero_fdv (w : World) : (zeroValue 39).run Try.prog w = .ok (.agg #[.int .i64 0, .int .i64 0, .int .u8 0]) w := (zero_of_info zero_fd).1 w
/-- Look up of a key that is there. -/
theorem wpList_lookup_fd (w : World) {ops : Array Oper} {rest : List Oper} {o : Oper} {a : Act} {Q : Exit → Act → World → Prop} (hg : o.guard = none) (m x : Operand) (hop : o.op = Op.lookup 64 m x true) (b n : Nat) (D : FD)
    (hm : a.eval m = .map (some b)) (hown : w.ownsMap Try.prog 3 fdR b n D) (key : Value) (kl : Lit) (hx : a.eval x = key) (hkey : keyOf Try.prog 3 key = some kl) (f : Fd)
    (hat : D.atKey kl (fdD fd0) = fdD f) (hhas : Maps.has D kl = true) (hK : wpList Try.prog ops Q rest (a.put o.dst (.tuple #[f.val, .bool true])) w) : wpList Try.prog ops Q (o :: rest) a w :=
  wpList_lookup_own_ok w hg m x 64 hop 3 39 (int_keyed Try.underlying3) Try.underlying64 fdR (zero_fdv w) (fdD fd0) [] rfl b n D hm hown key kl hx hkey (fun v ps hv => by
    obtain ⟨g, rfl, hd⟩ := fdR_inv hv
    rw [hat] at hd
    rw [← fdD_inj hd, hhas]
    exact hK)
/-- The map beside two fields in blocks of their own. -/
structure PtF (w : World) (b g : Nat) (r c : Int) (L : List Cl) (v : Value) (mb : Nat) (S : List (Int × Fd)) (F1 F2 : Nat) (f : Fd) (W : World) : Prop where
  p : PtQ w b g r c L v mb S W
  h1 : W.heap[F1]? = some (.cells #[.int .i64 f.s, .int .i64 f.k, .int .u8 f.a] 39 (0, 0))
  h2 : W.heap[F2]? = some (.cells #[.int .i64 f.s, .int .i64 f.k, .int .u8 f.a] 39 (0, 0))
section
variable {w W W' : World} {b g : Nat} {r c : Int} {L : List Cl} {v : Value} {mb : Nat} {S : List (Int × Fd)} {F1 F2 : Nat} {f : Fd}
theorem PtF.below (h : PtF w b g r c L v mb S F1 F2 f W) (t : Below W.heap.size W W') : PtF w b g r c L v mb S F1 F2 f W' :=
  ⟨h.p.below t, (t.block _ (lt_of_block h.h1)).trans h.h1, (t.block _ (lt_of_block h.h2)).trans h.h2⟩
theorem PtF.drew (h : PtF w b g r c L v mb S F1 F2 f W) : PtF w b g r c L v mb S F1 F2 f W.drew := ⟨⟨h.p.q.drew, h.p.mp, h.p.lm⟩, h.h1, h.h2⟩
theorem PtF.s (h : PtF w b g r c L v mb S F1 F2 f W) : W.cell? ⟨F1, 0, none⟩ = some (.int .i64 f.s) ∧ W.cell? ⟨F1, 1, none⟩ = some (.int .i64 f.k) ∧ W.cell? ⟨F1, 2, none⟩ = some (.int .u8 f.a) ∧ W.cell? ⟨F2, 0, none⟩ = some (.int .i64 f.s) ∧ W.cell? ⟨F2, 1, none⟩ = some (.int .i64 f.k) ∧ W.cell? ⟨F2, 2, none⟩ = some (.int .u8 f.a) ∧ PtF w b g r c L v mb S F1 F2 f W :=
  ⟨by simp [World.cell?, h.h1], by simp [World.cell?, h.h1], by simp [World.cell?, h.h1], by simp [World.cell?, h.h2], by simp [World.cell?, h.h2], by simp [World.cell?, h.h2], h⟩
end
theorem placesL_len (n : Nat) (s k : Int) : (placesL n s k).length ≤ k.toNat := by
  unfold placesL; split
  · rw [first_length]; exact Nat.le_refl _
  · simp
set_option maxRecDepth 100000 in
set_option maxHeartbeats 8000000 in
theorem parts_law (r c : Int) (v0 : Value) (L0 : List Cl) (w : World) (hv : ClsAt w v0 L0) (hm : L0.length ≤ maxLen) (hok : ∀ x ∈ L0, x.Ok) :
    Calls Try.prog 5 #[.agg #[.int .i64 r, .int .i64 c], v0] w fun e W => e = .returned (.bool true) ∧ Below w.heap.size w W := by
  obtain ⟨a0, cap0, hv0, _⟩ := id hv
  subst hv0
  obtain ⟨m0, hm0⟩ : ∃ m0, m0 = L0.length := ⟨_, rfl⟩
  have HV := Lib.hid hv
  have HM := Lib.hid hm
  have HOK := Lib.hid hok
  rw [← hm0] at HV hm ⊢
  have HM0 := Lib.hid hm0
  obtain ⟨W0, hW0⟩ : ∃ W0, W0 = w.alloc (.cells #[.int .i64 r, .int .i64 c] 23) := ⟨_, rfl⟩
  have hn0 : W0.heap[w.heap.size]? = some (.cells #[.int .i64 r, .int .i64 c] 23 (0, 0)) := by rw [hW0]; exact heap_alloc_new w _
  have HN0 := Lib.hid hn0
  have B0 := Lib.hid (show Below w.heap.size w W0 by rw [hW0]; exact below_alloc w _)
  have HW0 := Lib.hid hW0.symm
  clear hv hok hm0 hW0 hn0 hm
  go_enter Try.func5, Try.ntmps5
  go_wp2_with fail
  rw [HW0.out]
  go_wp2_with (go_at_call 13; (with_reducible refine (fld_alive W0).mono ?_); rintro e w1 ⟨rfl, hb1⟩
               have n1 := (hb1.block _ (lt_of_block HN0.out)).trans HN0.out
               have q0 : w1.cell? ⟨w.heap.size, 0, none⟩ = some (.int .i64 r) := by simp [World.cell?, n1]
               have q1 : w1.cell? ⟨w.heap.size, 1, none⟩ = some (.int .i64 c) := by simp [World.cell?, n1]
               have B1 := Lib.hid (B0.out.trans (hb1.mono B0.out.size)); clear hb1 n1)
  go_at_call 14
  refine (made_any r c (.slice a0 m0 cap0) L0 w1 (HV.out.below (B1.out.mono (Nat.le_refl _))) HM.out).mono ?_
  rintro e w2 (⟨hno, pv, r', c', a', l', k', rfl, hb2⟩ | ⟨b, g, gx, n, hcn, hn1, hn2, rfl, hpl, hrow, hb, hg, hgx, hgb, hgg, hb2⟩)
  · unfold xV
    go_wp2_with fail
    go_ret
    exact ⟨rfl, B1.out.trans ((hb2.mono B1.out.size).alloc (by have := B1.out.size; have := hb2.size; omega) _)⟩
  · unfold xV
    obtain ⟨L, hL⟩ : ∃ L, L = mL n L0 L0.length := ⟨_, rfl⟩
    rw [← hL] at hpl
    have hlen : L.length = n := by rw [hL, mL_length]
    have hokL : OkL L := by rw [hL]; exact mL_oks HOK.out _ _
    have HPL := Lib.hid (hpl.alloc (.cells #[.int .i64 r, .int .i64 c, .slice (some ⟨gx, 0, none⟩) n n, .int .i64 0] 28))
    have B2 := Lib.hid ((B1.out.trans (hb2.mono B1.out.size)).alloc (by have := B1.out.size; have := hb2.size; omega) (.cells #[.int .i64 r, .int .i64 c, .slice (some ⟨gx, 0, none⟩) n n, .int .i64 0] 28))
    have HBO := Lib.hid (bo_of_ok hokL)
    have hmk := World.ownsMap_made (w2.alloc (.cells #[.int .i64 r, .int .i64 c, .slice (some ⟨gx, 0, none⟩) n n, .int .i64 0] 28)) Try.prog 3 (fdR)
    have hpl2 := HPL.out.below (below_alloc _ (.map #[] 0))
    have hbl2 := B2.out.alloc B2.out.size (.map #[] 0)
    obtain ⟨W5, hW5⟩ : ∃ W5, W5 = (w2.alloc (.cells #[.int .i64 r, .int .i64 c, .slice (some ⟨gx, 0, none⟩) n n, .int .i64 0] 28)).alloc (.map #[] 0) := ⟨_, rfl⟩
    rw [← hW5] at hmk hpl2 hbl2
    rw [World.size_alloc] at hmk
    obtain ⟨mb, hmb⟩ : ∃ mb, mb = w2.heap.size + 1 := ⟨_, rfl⟩
    rw [← hmb] at hmk
    have hmb2 : w.heap.size ≤ mb := by have := B2.out.size; rw [World.size_alloc] at this; omega
    have hmm : ∀ w : World, (Instr.makeMap 64 none).run Try.prog w = .ok (.map (some w.heap.size)) (w.alloc (.map #[] 0)) := fun _ => by kernel_rfl
    have HMK := Lib.hid hmk
    have HP5 := Lib.hid hpl2
    have HB5 := Lib.hid hbl2
    have HW5 := Lib.hid hW5.symm
    have HMB := Lib.hid hmb.symm
    clear hpl hrow hb2 hL hcn q0 q1 hmk hpl2 hbl2 hW5 hmb
    go_upto_region 8 with fail
    rw [HW5.out, HMB.out]
    clear hmm
    go_wp2_with (go_at_call 16; (with_reducible refine (lall_any HP5.out HBO.out 1000 (by omega)).mono ?_); rintro e w3 ⟨v, he, hr, _, hb3⟩
                 rw [take_all (by have := allK_most L (fun _ => L) L.length; show (allK L (fun _ => L) L.length).length ≤ _; omega)] at hr
                 obtain ⟨a, cap, hv, hsome⟩ := row_shape hr
                 subst hv
                 subst he
                 have HQ := Lib.hid (show PtQ w b g r c L (.slice a (allL L).length cap) mb [] w3 from ⟨⟨HP5.out.below hb3, hr, HB5.out.trans (hb3.mono HB5.out.size)⟩, HMK.out.kept (grown_of_below hb3) (by simp), hmb2⟩)
                 have HSO := Lib.hid hsome
                 obtain ⟨m, hmm⟩ : ∃ m, m = (allL L).length := ⟨_, rfl⟩
                 have hml : m ≤ 120 := by have := allK_most L (fun _ => L) L.length; rw [hmm]; show (allK L (fun _ => L) L.length).length ≤ _; omega
                 rw [← hmm] at HQ HSO ⊢
                 have HMM := Lib.hid hmm
                 clear hr hb3 hsome hmm)
    go_loopw [9, 35] (fun q p wr => ∃ i : Nat, p = .int .i64 i ∧ i ≤ m ∧ q = .int .i64 ((pK n ((allL L).take i)).length : Nat) ∧ PtQ w b g r c L (.slice a m cap) mb (pK n ((allL L).take i)) wr) (fun _ p _ => m - (intOf p).toNat)
    case atStart => exact ⟨0, rfl, Nat.zero_le _, rfl, HQ.out⟩
    case round =>
      obtain ⟨i, rfl, hi, rfl, hq⟩ := hrel
      have HQ1 := Lib.hid hq
      by_cases him : i < m
      · have himi : (i : Int) < (m : Int) := by omega
        obtain ⟨gr, rfl⟩ := HSO.out (by omega)
        have hrow := hq.q.row
        rw [← HMM.out] at hrow
        obtain ⟨f, hf⟩ : ∃ f, (allL L)[i]? = some f := ⟨_, List.getElem?_eq_getElem (by rw [← HMM.out]; exact him)⟩
        have htk := pK_take (n := n) hf
        obtain ⟨p, p1, p2, p3⟩ := (stg L L.length).each i f hf
        have hfs : f.s = p := by rw [p3]; rfl
        have hfk := begF_bd (L := L) (by omega) p
        rw [← p3] at hfk
        obtain ⟨f0, f1', f3⟩ := flatF_get _ _ _ hf
        have a1 := (hrow.cellAt (i * 3) (by omega)).trans f0
        have a2 := (hrow.cellAt (i * 3 + 1) (by omega)).trans f1'
        have a3 := (hrow.cellAt (i * 3 + 2) (by omega)).trans f3
        obtain ⟨S, hS⟩ : ∃ S, S = pK n ((allL L).take i) := ⟨_, rfl⟩
        rw [← hS] at htk hq ⊢
        -- how many there are is little: they are places of a plane
        have hSl : S.length ≤ 120 * 121 := by
          rw [hS]
          have : ∀ X : List Fd, (∀ f ∈ X, f.k.toNat ≤ 120) → (pK n X).length ≤ X.length * 121 := by
            intro X
            induction X with
            | nil => intro _; simp [pK]
            | cons f X ih =>
              intro h
              have h1 := ih (fun g hg => h g (List.mem_cons_of_mem _ hg))
              have h2 := h f (by simp)
              have h3 : (cellsF n f).length ≤ 121 := by
                unfold cellsF placesL
                split
                · simp [first_length]; omega
                · simp
              simp only [pK, List.flatMap_cons, List.length_append, List.length_map, List.length_cons] at h1 ⊢
              omega
          have h4 := this ((allL L).take i) (fun g hg => by
            obtain ⟨s, s0, s1, _, rfl⟩ := mem_allL (List.mem_of_mem_take hg)
            have := begF_bd (L := L) (by omega) s
            omega)
          have h5 : ((allL L).take i).length ≤ 120 := by rw [List.length_take]; omega
          have : ((allL L).take i).length * 121 ≤ 120 * 121 := Nat.mul_le_mul_right _ h5
          omega
        have hq1 := hq.below (below_alloc wr (.cells #[.int .i64 f.s, .int .i64 f.k, .int .u8 f.a] 39))
        obtain ⟨Fb, hFb⟩ : ∃ Fb, Fb = wr.heap.size := ⟨_, rfl⟩
        obtain ⟨W6, hW6⟩ : ∃ W6, W6 = wr.alloc (.cells #[.int .i64 f.s, .int .i64 f.k, .int .u8 f.a] 39) := ⟨_, rfl⟩
        have hF6 : W6.heap[Fb]? = some (.cells #[.int .i64 f.s, .int .i64 f.k, .int .u8 f.a] 39 (0, 0)) := by rw [hW6, hFb]; exact heap_alloc_new _ _
        rw [← hW6] at hq1
        have q0 : W6.cell? ⟨Fb, 0, none⟩ = some (.int .i64 f.s) := by simp [World.cell?, hF6]
        have q1 : W6.cell? ⟨Fb, 1, none⟩ = some (.int .i64 f.k) := by simp [World.cell?, hF6]
        have q2 : W6.cell? ⟨Fb, 2, none⟩ = some (.int .u8 f.a) := by simp [World.cell?, hF6]
        have HW6 := Lib.hid hW6.symm
        have HFB := Lib.hid hFb.symm
        have HF6 := Lib.hid hF6
        have hown := hq1.mp
        have HQ6 := Lib.hid hq1
        have HKEY : Hid (keyOf Try.prog 3 (.int .i64 f.s) = some (.int .i64 f.s)) := Lib.hid (keyOf_int_mk Try.underlying3 (WalkArith.wf_i64 (by omega)))
        have HTK := Lib.hid htk
        have HS := Lib.hid hS
        have HFK := Lib.hid hfk
        have HFS := Lib.hid (show 0 ≤ f.s ∧ f.s < L.length by omega)
        clear hq hrow hf htk p2 p3 hfs f0 f1' f3 hS hW6 hF6 hq1 hfk hFb
        go_upto_region 11 with fail
        rw [HW6.out, HFB.out]
        go_wp2_with (first
          | (at_mapUpdate; refine wpList_mapUpdate_own _ rfl _ _ _ 64 rfl 3 39 (int_keyed Try.underlying3) Try.underlying64 fdR mb S.length _ rfl hown (by unfold maxLen; omega) _ _ _ rfl rfl HKEY.out (fdD f) [] (fdR_mk f) ?_; intro w7 hown7 hgrow7
             have hF7 := (cells_kept HF6.out hgrow7 (map_rows HQ6.out.mp)).trans HF6.out
             have q3 : w7.cell? ⟨Fb, 0, none⟩ = some (.int .i64 f.s) := by simp [World.cell?, hF7]
             have q4 : w7.cell? ⟨Fb, 1, none⟩ = some (.int .i64 f.k) := by simp [World.cell?, hF7]
             have q5 : w7.cell? ⟨Fb, 2, none⟩ = some (.int .u8 f.a) := by simp [World.cell?, hF7]
             have HQ7 := Lib.hid (HQ6.out.put hgrow7 hown7)
             have HF7 := Lib.hid hF7
             clear hF7 hgrow7 hown7 hown q0 q1 q2)
          | (go_at_call 22; (with_reducible refine (lplaces_any (WkQ.pl (PtQ.q HQ7.out)) f 1000 (by have := HFK.out; omega) (by omega)).mono ?_); rintro e w8 ⟨v2, he, hr2, _, hb8⟩
             subst he
             have hpl : (placesL L.length f.s f.k).length ≤ 120 := Nat.le_trans (placesL_len _ _ _) (by have := HFK.out; omega)
             rw [take_all (by omega)] at hr2
             obtain ⟨a8, c8, hv8, hs8⟩ := row_shape hr2
             subst hv8
             have HQ8 := Lib.hid (show InQ w b g r c L (.slice (some ⟨gr, 0, none⟩) m cap) mb Fb f (.slice a8 (placesL L.length f.s f.k).length c8) (placesL L.length f.s f.k) (S ++ [(f.s, f)]) w8 from ⟨HQ7.out.below hb8, (hb8.block _ (lt_of_block HF7.out)).trans HF7.out, hr2⟩)
             have HS8 := Lib.hid hs8
             obtain ⟨Y, hY⟩ : ∃ Y, Y = placesL L.length f.s f.k := ⟨_, rfl⟩
             rw [← hY] at HQ8 HS8 hpl ⊢
             have HY := Lib.hid hY
             clear hr2 hb8 hs8 hY))
        go_loopw [9, 49] (fun q p wy => ∃ j : Nat, p = .int .i64 j ∧ j ≤ Y.length ∧ q = .int .i64 ((S.length : Int) + 1 + j) ∧ InQ w b g r c L (.slice (some ⟨gr, 0, none⟩) m cap) mb Fb f (.slice a8 Y.length c8) Y ((S ++ [(f.s, f)]) ++ (Y.take j).map fun y => (y, f)) wy) (fun _ p _ => Y.length - (intOf p).toNat)
        case atStart => exact ⟨0, rfl, Nat.zero_le _, by simp, by simpa using HQ8.out⟩
        case round =>
          obtain ⟨j, rfl, hj, rfl, hin⟩ := hrel
          have HIN := Lib.hid hin
          by_cases hjk : j < Y.length
          · obtain ⟨g8, rfl⟩ := HS8.out (by omega)
            obtain ⟨y, hy⟩ : ∃ y, Y[j]? = some y := ⟨_, List.getElem?_eq_getElem hjk⟩
            have hyb := mem_places (n := L.length) (a := f.s) (k := f.k) (y := y) (by rw [← HY.out]; exact List.mem_of_getElem? hy)
            have hyc := (hin.row.cellAt j (by omega)).trans (show (Y.map (Value.int .i64))[j]? = some (.int .i64 y) by simp [hy])
            have q0 : wr.cell? ⟨Fb, 0, none⟩ = some (.int .i64 f.s) := by simp [World.cell?, hin.hF]
            have q1 : wr.cell? ⟨Fb, 1, none⟩ = some (.int .i64 f.k) := by simp [World.cell?, hin.hF]
            have q2 : wr.cell? ⟨Fb, 2, none⟩ = some (.int .u8 f.a) := by simp [World.cell?, hin.hF]
            have hjki : (j : Int) < (Y.length : Int) := by omega
            have hown := hin.p.mp
            have HKEY2 : Hid (keyOf Try.prog 3 (.int .i64 y) = some (.int .i64 y)) := Lib.hid (keyOf_int_mk Try.underlying3 (WalkArith.wf_i64 (by omega)))
            have HTJ := Lib.hid (show Y.take (j + 1) = Y.take j ++ [y] by
              obtain ⟨h1, rfl⟩ := List.getElem?_eq_some_iff.1 hy
              rw [List.take_succ_eq_append_getElem h1])
            clear hin hy
            go_wp2_with (at_mapUpdate; refine wpList_mapUpdate_own _ rfl _ _ _ 64 rfl 3 39 (int_keyed Try.underlying3) Try.underlying64 fdR mb _ _ rfl hown (by unfold maxLen; simp; omega) _ _ _ rfl rfl HKEY2.out (fdD f) [] (fdR_mk f) ?_; intro w9 hown9 hgrow9
                         have HIN9 := Lib.hid (HIN.out.put hgrow9 hown9)
                         clear hgrow9 hown9 hown q0 q1 q2)
            go_roundw
            case rel => exact ⟨j + 1, by go_num, by omega, by go_num, by rw [HTJ.out, List.map_append, ← List.append_assoc]; exact HIN9.out⟩
            case measure => simp [intOf]; omega
          · have hjk2 : j = Y.length := by omega
            have hjki : ¬ (j : Int) < (Y.length : Int) := by omega
            have htk2 : pK n ((allL L).take (i + 1)) = (S ++ [(f.s, f)]) ++ (Y.take j).map (fun y => (y, f)) := by
              rw [HTK.out, hjk2, List.take_length, HY.out, ← hlen]; simp
            have HTK2 := Lib.hid htk2
            have hlen2 : (pK n ((allL L).take (i + 1))).length = S.length + 1 + j := by
              rw [htk2]; simp; omega
            have HLEN2 := Lib.hid hlen2
            clear hin htk2 hlen2
            go_wp2
            go_roundw
            case rel => exact ⟨i + 1, by go_num, by omega, by rw [HLEN2.out]; go_num, by rw [HTK2.out]; exact HIN.out.p⟩
            case measure => simp [intOf]; omega
      · have himi : ¬ (i : Int) < (m : Int) := by omega
        have hS : pK n ((allL L).take i) = partsL L := by
          rw [take_all (by rw [← HMM.out]; omega), ← hlen]; rfl
        rw [hS] at hq ⊢
        have HP := Lib.hid hq
        have hbn := bef_none (L := L) (a := 0) (by omega) (by omega)
        clear hq HQ1 hS
        by_cases hX : allL L = []
        · have HFM := Lib.hid (show (befL L 0 != -1) = false by rw [hbn.2 hX]; rfl)
          have HHM := Lib.hid (show homeL L = 0 by unfold homeL; rw [hX]; rfl)
          rw [parts_nil hX] at HP ⊢
          clear hbn hX
          go_wp2_with (first
            | (go_at_call 17; (with_reducible refine (formatted_any (WkQ.pl (PtQ.q HP.out))).mono ?_); rintro e x1 ⟨he, hb⟩; rw [HFM.out] at he; subst he; have K1 := PtQ.below HP.out hb; clear hb)
            | (go_at_call 18; (with_reducible refine (home_any (WkQ.pl (PtQ.q K1)) HBO.out).mono ?_); rintro e x2 ⟨he, hb⟩; rw [HHM.out] at he; subst he; have K2 := PtQ.below K1 hb; clear hb))
          go_ret
          exact ⟨rfl, K2.q.old⟩
        · have HFM := Lib.hid (show (befL L 0 != -1) = true by simp; exact fun h => hX (hbn.1 h))
          have hcnt : (partsL L).length = n := by rw [parts_len hX, hlen]
          have HCN := Lib.hid hcnt
          have HX := Lib.hid hX
          rw [hcnt]
          clear hbn hX hcnt
          go_wp2_with (first
            | (go_at_call 17; (with_reducible refine (formatted_any (WkQ.pl (PtQ.q HP.out))).mono ?_); rintro e x1 ⟨he, hb⟩; rw [HFM.out] at he; subst he; have K1 := Lib.hid (PtQ.below HP.out hb); clear hb; have HL1 := Lib.hid (len_any (WkQ.pl (PtQ.q K1.out))); rw [hlen] at HL1)
            | (go_at_call 38; (with_reducible refine HL1.out.mono ?_); rintro e x2 ⟨rfl, rfl⟩))
          go_loopw [72] (fun p wy => ∃ j : Nat, p = .int .i64 j ∧ j ≤ n ∧ PtQ w b g r c L (.slice a m cap) mb (partsL L) wy) (fun p _ => n - (intOf p).toNat)
          case atStart => exact ⟨0, rfl, Nat.zero_le _, K1.out⟩
          case round =>
            obtain ⟨j, rfl, hj, hqj⟩ := hrel
            have HQJ := Lib.hid hqj
            clear hqj
            by_cases hjn : j < n
            · have hjni : (j : Int) < (n : Int) := by omega
              obtain ⟨hat, hhas⟩ := parts_at (L := L) (y := j) (by omega) (by omega) HX.out (fdD fd0)
              have hcov := cover (L := L) (y := j) (by omega) (by omega) HX.out
              have hmc := mem_cells hcov.1 hcov.2
              have hisf := isF_iff (L := L) (a := j) (by omega) (by omega)
              have HIS := Lib.hid (show isF L j = true by rw [hisf]; simp; exact List.length_pos_iff.2 HX.out)
              obtain ⟨⟨fs, fk, fa⟩, hf⟩ : ∃ f, f = ofF L j := ⟨_, rfl⟩
              rw [← hf] at hat hmc
              have HBF := Lib.hid (show befL L j = fs from hmc.2.2.1)
              have HOF := Lib.hid hf
              have HAT := Lib.hid hat
              have HHS := Lib.hid hhas
              have HKEY : Hid (keyOf Try.prog 3 (.int .i64 (j : Int)) = some (.int .i64 (j : Int))) := Lib.hid (keyOf_int_mk Try.underlying3 (WalkArith.wf_i64 (by omega)))
              clear hat hhas hcov hmc hisf hf
              go_wp2_with (first
                | (go_at_call 27; (with_reducible refine (of_any (WkQ.pl (PtQ.q HQJ.out)) j HBO.out).mono ?_); rintro e x3 ⟨he, hb⟩; rw [← HOF.out, HIS.out] at he; simp only [Fd.val] at he; subst he
                   have HQ3 := Lib.hid ((PtQ.below HQJ.out hb).below (below_alloc x3 (.cells #[.int .i64 fs, .int .i64 fk, .int .u8 fa] 39)))
                   have HF3 := Lib.hid (heap_alloc_new x3 (.cells #[.int .i64 fs, .int .i64 fk, .int .u8 fa] 39))
                   have hown := HQ3.out.mp
                   clear hb)
                | (at_lookup; refine wpList_lookup_fd _ rfl _ _ rfl mb _ _ rfl hown _ _ rfl HKEY.out ⟨fs, fk, fa⟩ HAT.out HHS.out ?_))
              have hpf : PtF w b g r c L (.slice a m cap) mb (partsL L) x3.heap.size (x3.heap.size + 1) ⟨fs, fk, fa⟩ ((x3.alloc (.cells #[.int .i64 fs, .int .i64 fk, .int .u8 fa] 39)).alloc (.cells #[.int .i64 fs, .int .i64 fk, .int .u8 fa] 39)) := by
                refine ⟨HQ3.out.below (below_alloc _ _), ?_, ?_⟩
                · rw [Below.heap_alloc _ _ _ (by simp)]; exact HF3.out
                · have := heap_alloc_new (x3.alloc (.cells #[.int .i64 fs, .int .i64 fk, .int .u8 fa] 39)) (.cells #[.int .i64 fs, .int .i64 fk, .int .u8 fa] 39)
                  simp only [World.size_alloc] at this; exact this
              have HPF := Lib.hid hpf
              clear hpf hown
              go_region_held3 (fun X => X.cell? ⟨x3.heap.size, 0, none⟩ = some (.int .i64 fs) ∧ X.cell? ⟨x3.heap.size, 1, none⟩ = some (.int .i64 fk) ∧ X.cell? ⟨x3.heap.size, 2, none⟩ = some (.int .u8 fa) ∧ X.cell? ⟨x3.heap.size + 1, 0, none⟩ = some (.int .i64 fs) ∧ X.cell? ⟨x3.heap.size + 1, 1, none⟩ = some (.int .i64 fk) ∧ X.cell? ⟨x3.heap.size + 1, 2, none⟩ = some (.int .u8 fa) ∧ PtF w b g r c L (.slice a m cap) mb (partsL L) x3.heap.size (x3.heap.size + 1) ⟨fs, fk, fa⟩ X)
                (with_reducible (first | assumption | exact PtF.s (PtF.drew HPF.out) | exact PtF.s (by assumption)))
                (first
                  | (go_at_call 29; (with_reducible refine (before_any (WkQ.pl (PtQ.q (PtF.p (PtF.drew HPF.out)))) j).mono ?_); rintro e x4 ⟨he, hb⟩; rw [HBF.out] at he; subst he; have K4 := PtF.below (PtF.drew HPF.out) hb; clear hb))
              all_goals
                go_wp2
                go_roundw
                case rel => exact ⟨j + 1, by go_num, by omega, K4.p⟩
                case measure => simp [intOf]; omega
            · have hjni : ¬ (j : Int) < (n : Int) := by omega
              obtain ⟨hm, hhm⟩ : ∃ hm, hm = homeL L := ⟨_, rfl⟩
              have HHM := Lib.hid hhm
              have hop := home_open (L := L)
              rw [← hhm] at hop
              have HOP := Lib.hid hop
              clear hhm hop
              by_cases hm0 : hm = 0
              · have hm0b : (hm == 0) = true := by simpa using hm0
                clear hm0
                go_wp2_with (first
                  | (go_at_call 18; (with_reducible refine (home_any (WkQ.pl (PtQ.q HQJ.out)) HBO.out).mono ?_); rintro e x5 ⟨he, hb⟩; rw [← HHM.out] at he; subst he; have K5 := PtQ.below HQJ.out hb; clear hb
                     have hl := World.ownsMap.len K5.mp Try.underlying64 3
                     rw [parts_size, HCN.out] at hl
                     have HL5 := Lib.hid (len_any (WkQ.pl (PtQ.q K5))); rw [hlen] at HL5)
                  | (go_at_call 38; (with_reducible refine HL5.out.mono ?_); rintro e x6 ⟨rfl, rfl⟩))
                go_ret
                exact ⟨rfl, K5.q.old⟩
              · have hm0b : (hm == 0) = false := by simpa using hm0
                have HOP2 := Lib.hid (HOP.out hm0)
                clear hm0
                go_wp2_with (first
                  | (go_at_call 18; (with_reducible refine (home_any (WkQ.pl (PtQ.q HQJ.out)) HBO.out).mono ?_); rintro e x5 ⟨he, hb⟩; rw [← HHM.out] at he; subst he; have K5 := PtQ.below HQJ.out hb; clear hb
                     have hl := World.ownsMap.len K5.mp Try.underlying64 3
                     rw [parts_size, HCN.out] at hl
                     have HL5 := Lib.hid (len_any (WkQ.pl (PtQ.q K5))); rw [hlen] at HL5)
                  | (go_at_call 38; (with_reducible refine HL5.out.mono ?_); rintro e x6 ⟨rfl, rfl⟩)
                  | (go_at_call 32; (with_reducible refine (open_any (WkQ.pl (PtQ.q K5)) hm HBO.out).mono ?_); rintro e x7 ⟨he, hb⟩; rw [HOP2.out] at he; subst he; have K7 := PtQ.below K5 hb; clear hb))
                go_ret
                exact ⟨rfl, K7.q.old⟩
theorem fieldParts_law {w : World} (r c : Int) {p1 p2 : Prop} (_ : p1) (_ : p2) (v : Value) (L0 : List Cl) (hL : ClsAt w v L0 ∧ L0.length ≤ maxLen ∧ ∀ x ∈ L0, x.Ok) :
    Calls Try.prog 5 #[.agg #[.int .i64 r, .int .i64 c], v] w fun e W => e = .returned (.bool true) ∧ Below w.heap.size w W :=
  parts_law r c v L0 w hL.1 hL.2.1 hL.2.2
end Go.Proofs.Ytgbekdeedahajaa.Pl
