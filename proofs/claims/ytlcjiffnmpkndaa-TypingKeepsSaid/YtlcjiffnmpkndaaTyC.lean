/-
  The contract of a row's iterator.
-/
import Derived.Test.YtlcjiffnmpkndaaTyB
namespace Go.Proofs.Ytlcjiffnmpkndaa.Pl
open Go.RowKit Go.Shelf Base
attribute [local go_sem] Oper.semAt_some
set_option linter.unusedVariables false
set_option linter.unusedSimpArgs false

set_option maxRecDepth 100000 in
set_option maxHeartbeats 8000000 in
theorem row_seq {w : World} {bp bf b g : Nat} {r c cur a : Int} {L : List Cl} (hI : BackIt w bp bf b a) (hbo : BoL L) (hk : (wholeF L a).k ≤ 9223372036854775807) :
    SeqL Fence.wide 3 Try.prog 123 #[.pointer (some ⟨bp, 0, none⟩), .pointer (some ⟨bf, 0, none⟩)] (fun x : Int => #[Value.int .i64 x]) (KR bp bf) (fun pre W => (pre = [] → PlAt W b g r c cur L) ∧ PlN b L.length W) (fun ys => ys = rowL L a) (fun pre => pre <+: rowL L a) (rowL L a).length 0 w := by
  intro l J Jx W hW hJ hJx hJp hY h0
  have hIW : BackIt W bp bf b a := ⟨(hW.block _ (lt_of_block hI.1)).trans hI.1, (hW.block _ (lt_of_block hI.2)).trans hI.2⟩
  have hP := (hJp _ _ h0).1 rfl
  have hbw : bp < W.heap.size ∧ bf < W.heap.size := ⟨lt_of_block hIW.1, lt_of_block hIW.2⟩
  obtain ⟨W1, hW1⟩ : ∃ W1, W1 = (W.alloc (.cells #[.func (.yield l) #[] #[]] 49)).alloc (.cells #[.bool false] 4) := ⟨_, rfl⟩
  have hb1 : Below W.heap.size W W1 := by rw [hW1]; exact (below_alloc _ _).alloc (by simp) _
  have hs1 : W1.heap.size = W.heap.size + 2 := by rw [hW1]; simp
  have y0 : W1.heap[W.heap.size]? = some (.cells #[.func (.yield l) #[] #[]] 49 (0, 0)) := by
    rw [hW1, Below.heap_alloc _ _ _ (by simp)]; exact heap_alloc_new _ _
  have z0 : W1.heap[W.heap.size + 1]? = some (.cells #[.bool false] 4 (0, 0)) := by
    have := heap_alloc_new (W.alloc (.cells #[.func (.yield l) #[] #[]] 49)) (.cells #[.bool false] 4)
    simp only [World.size_alloc] at this
    rw [hW1]; exact this
  have k0 : RwQ bp bf b g r c cur L a W1 W1 := ⟨⟨(hb1.block _ hbw.1).trans hIW.1, (hb1.block _ hbw.2).trans hIW.2⟩, hP.below hb1, Below.refl _ _⟩
  have HJ := Lib.hid hJ
  have HJx := Lib.hid hJx
  have HJp := Lib.hid hJp
  have HY := Lib.hid hY
  have H0 := Lib.hid h0
  have K0 := Lib.hid k0
  have Y0 := Lib.hid y0
  have Z0 := Lib.hid z0
  have B1 := Lib.hid hb1
  have HW1 := Lib.hid hW1.symm
  have HS1 := Lib.hid hs1
  obtain ⟨p0, f0, _⟩ := k0.sc
  have HK := Lib.hid hk
  obtain ⟨f, hf⟩ : ∃ f, f = wholeF L a := ⟨_, rfl⟩
  have HWH : Hid (∀ X, PlAt X b g r c cur L → Calls Try.prog 125 #[.pointer (some ⟨b, 0, none⟩), .int .i64 a] X fun e X' => e = .returned (.agg #[.int .i64 f.s, .int .i64 f.k, .int .u8 f.a]) ∧ Below X.heap.size X X') := Lib.hid (fun X h => by rw [hf]; exact whole_any h a hbo)
  have HPL : Hid (∀ X, Calls Try.prog 124 #[.pointer (some ⟨b, 0, none⟩), .agg #[.int .i64 f.s, .int .i64 f.k, .int .u8 f.a]] X fun e W => e = .returned (.func (.func 144) #[] #[.pointer (some ⟨X.heap.size, 0, none⟩), .pointer (some ⟨X.heap.size + 1, 0, none⟩)]) ∧ PlcIt W X.heap.size (X.heap.size + 1) b f ∧ Below X.heap.size X W ∧ W.heap.size = X.heap.size + 2) := Lib.hid (fun X => places_any X b f)
  obtain ⟨n, hn⟩ : ∃ n, n = L.length := ⟨_, rfl⟩
  have hrow : rowL L a = dropTo a (placesL n f.s f.k) := by rw [hn, hf]; rfl
  have HROW := Lib.hid hrow
  have hkf : f.k ≤ 9223372036854775807 := by rw [hf]; exact hk
  have HKF := Lib.hid hkf
  have HNN := Lib.hid hn
  clear hW hJ hJx hJp hY h0 hI hIW hP hW1 hb1 hs1 y0 z0 k0 hk hf hn hrow hkf hbo
  refine callsIn_of_wp_marks Try.func123 rfl trivial ?_ rfl
  simp only [Try.ntmps123, List.size_toArray, List.length_cons, List.length_nil, Nat.reduceAdd, Nat.reduceSub, Array.replicate_succ, Array.replicate_zero, List.push_toArray, List.append_toArray, List.nil_append, List.cons_append]
  gi_upto_region 2 with fail
  rw [HW1.out]
  gi_cut [10] from 6 (fun v X => PlcQ bp bf b g r c cur L a f v W1 X)
  case first =>
    refine wpIn_wide.2 ?_
    go_region_held3 (fun X => X.cell? ⟨bp, 0, none⟩ = some (.pointer (some ⟨b, 0, none⟩)) ∧ X.cell? ⟨bf, 0, none⟩ = some (.int .i64 a) ∧ RwQ bp bf b g r c cur L a W1 X)
      (with_reducible (first | assumption | exact RwQ.sc (RwQ.drew K0.out) | exact RwQ.sc (by assumption)))
      (first
        | (go_at_call 125; (with_reducible refine (HWH.out _ (RwQ.pl (RwQ.drew K0.out))).mono ?_); rintro e w3 ⟨rfl, hb3⟩; have K3 := RwQ.below (RwQ.drew K0.out) hb3; clear hb3)
        | (go_at_call 124; (with_reducible refine (HPL.out _).mono ?_); rintro e w4 ⟨rfl, hpc, hb4, hs4⟩; have K4 := RwQ.below K3 hb4; have K5 := Lib.hid hpc; have K6 := Lib.hid hs4; clear hpc hb4 hs4))
    gi_wp2_with fail
    gi_meet
    case rel => exact ⟨_, rfl, K5.out, (RwQ.old K3).size, by have := K6.out; omega, K4⟩
  case rest =>
    obtain ⟨s, rfl, hpc, hs2, hs3, K4⟩ := hcut
    rw [HS1.out] at hs2
    have hyb : wc.heap[W.heap.size]? = some (.cells #[.func (.yield l) #[] #[]] 49 (0, 0)) := (K4.old.block _ (by have := HS1.out; omega)).trans Y0.out
    have hzb : wc.heap[W.heap.size + 1]? = some (.cells #[.bool false] 4 (0, 0)) := (K4.old.block _ (by have := HS1.out; omega)).trans Z0.out
    have hWX : Below W.heap.size W wc := B1.out.trans (K4.old.mono (by have := HS1.out; omega))
    have hJ0 : J [] wc := HJ.out [] W wc H0.out ((Turn.of_below (S := fun _ => False) (⟨hWX.os, hWX.tape, hWX.output, hWX.size, fun k hk => hWX.block k hk⟩)).mono fun k hk => hk.elim)
    have hri : RI W J bp bf b a l s f wc [] wc := ⟨hJ0, K4.it, hyb, by simpa using hzb, hpc, Nat.le_refl _⟩
    have hwcs : W.heap.size ≤ wc.heap.size := hWX.size
    have HRI := Lib.hid hri
    have hseq := places_seq 2 (by omega) s (s + 1) b n f HKF.out wc (by omega) hpc
    have HSQ := Lib.hid hseq
    clear hri hpc hyb hzb hJ0 hWX p0 f0 K4 HWH HPL hseq
    gi_wp2_with fail
    refine range_ask (α := Int) rfl (by omega) (gf := 144) rfl trivial (enters_of Try.func144 (by kernel_rfl) rfl)
      HSQ.out Keep2.trans ?hKb (Below.refl _ _) (fun _ => rfl)
      (RI W J bp bf b a l s f wc) (fun pre X h => by rw [HNN.out]; exact (HJp.out _ _ h.j).2) (fun c' pre X => c' = .ret ∧ ∃ q, q <+: rowL L a ∧ Jx q X) (RI.own HJ.out hwcs) (fun c' => ownFrom_exi HJx.out hwcs c') HRI.out
      (fun p a' _ => a' = { tmps := #[.func (.yield l) #[] #[], .pointer (some ⟨bp, 0, none⟩), .pointer (some ⟨bf, 0, none⟩), .pointer (some ⟨W.heap.size, 0, none⟩), .pointer (some ⟨W.heap.size + 1, 0, none⟩), .int .i64 p, u6, u7, u8, u9, .func (.func 144) #[] #[.pointer (some ⟨s, 0, none⟩), .pointer (some ⟨s + 1, 0, none⟩)], .int .i64 p, u12, u13, u14, u15, u16, u17, u18, u19, u20, u21, u22, u23, u24], defers := [] }) (fun _ _ _ _ _ _ h _ _ => h) ?assign ?body ?done ?stop
    case hKb =>
      intro X o o' ho hc
      have := lt_of_block ho
      exact Keep2.put X o' (by omega) (by omega) (by omega) (by omega)
    case assign =>
      intro l' pre p X K hsp hXs hI' hK
      gi_wp2
      exact hK _ _ (KeepsFrom.refl _ _) (Keep2.refl _ _ _) hI' rfl
    case body =>
      rintro l' pre p a' Y hsp hI' rfl hlt hYs
      rw [Nat.add_zero] at hYs
      have y1 : Y.cell? ⟨W.heap.size, 0, none⟩ = some (.func (.yield l) #[] #[]) := by simp [World.cell?, hI'.yb]
      have y2 : Y.cell? ⟨W.heap.size + 1, 0, none⟩ = some (.bool (decide (a ∈ pre))) := by simp [World.cell?, hI'.wb]
      have y3 : Y.cell? ⟨bf, 0, none⟩ = some (.int .i64 a) := by simp [World.cell?, hI'.it.2]
      have y4 : ∀ o, Y.frozen? ⟨W.heap.size + 1, o, none⟩ = false := fun o => by simp [World.frozen?, hI'.wb]
      have HI' := Lib.hid hI'
      have h11 : 1 ≤ 3 - 1 - 1 := by omega
      obtain ⟨v, hv⟩ : ∃ v, v = (decide (a ∈ pre) || decide (p = a)) := ⟨_, rfl⟩
      obtain ⟨j1, j2, j3, j4, j5, j6⟩ := hI'.store HJ.out (by omega) hbw v
      obtain ⟨w3, hw3⟩ : ∃ w3, w3 = Y.setCell ⟨W.heap.size + 1, 0, none⟩ (.bool v) := ⟨_, rfl⟩
      rw [← hw3] at j1 j2 j3 j4 j5 j6
      have x1 : w3.cell? ⟨W.heap.size, 0, none⟩ = some (.func (.yield l) #[] #[]) := by simp [World.cell?, j3]
      have x2 : w3.cell? ⟨W.heap.size + 1, 0, none⟩ = some (.bool v) := by simp [World.cell?, j4]
      have hYle : w3.heap.size = Y.heap.size := by rw [hw3]; simp
      have HSP := Lib.hid hsp
      have J1 := Lib.hid j1
      have J2 := Lib.hid j2
      have J3 := Lib.hid j3
      have J4 := Lib.hid j4
      have J5 := Lib.hid j5
      have J6 := Lib.hid j6
      have HW3 := Lib.hid hw3.symm
      have HV := Lib.hid hv
      clear hI' hsp hlt j1 j2 j3 j4 j5 j6
      have hbe : (p == a) = decide (p = a) := by by_cases h : p = a <;> simp [h]
      by_cases hin : a ∈ pre ∨ p = a
      · -- it is told
        have hvt : v = true := by rw [hv]; rcases hin with h | h <;> simp [h]
        subst hvt
        have hpin : a ∈ pre ++ [p] := by
          rcases hin with h | h
          · exact List.mem_append_left _ h
          · rw [h]; simp
        have hdt : dropTo a (pre ++ [p]) = dropTo a pre ++ [p] := by
          by_cases h : a ∈ pre
          · exact dropTo_snoc_in h p
          · have hpa : p = a := by rcases hin with h' | h'; exact absurd h' h; exact h'
            rw [hpa, dropTo_snoc_at h, dropTo_nil h]; rfl
        have hpre : dropTo a pre ++ [p] <+: rowL L a := by rw [← hdt, HROW.out]; exact dropTo_pre hpin HSP.out
        have hlt' : (dropTo a pre).length < (rowL L a).length := by
          have := hpre.length_le
          simp at this; omega
        obtain ⟨fn, tmps, assign, bodyc, hy, hR⟩ := yield_deep rfl 0 (HY.out (dropTo a pre) p w3 hpre J1.out hlt' (by omega))
        have HR := Lib.hid (round_in l' (round_one hR))
        have HDT := Lib.hid hdt
        have HPRE := Lib.hid hpre
        have HPIN := Lib.hid hpin
        have hvv : (decide (a ∈ pre) || decide (p = a)) = true := hv.symm
        have fin : ∀ (u : Bool) (w4 : World), (u = true → J (dropTo a pre ++ [p]) w4 ∧ KR bp bf W.heap.size w3 w4) → (u = false → Jx (dropTo a pre ++ [p]) w4 ∧ KeepsFrom W.heap.size w3 w4) →
            (u = true → ownPostG wc.heap.size (Keep2 s (s + 1)) (RI W J bp bf b a l s f wc) (fun c' pre X => c' = .ret ∧ ∃ q, q <+: rowL L a ∧ Jx q X) (pre ++ [p]) Y .normal { tmps := #[], defers := [] } w4) ∧ (u = false → KeepsFrom wc.heap.size Y w4 ∧ ∃ q, q <+: rowL L a ∧ Jx q w4) := by
          intro u w4 h1 h2
          have kY : KeepsFrom W.heap.size w3 w4 → KeepsFrom wc.heap.size Y w4 := by
            intro k
            refine ⟨by rw [← hYle]; exact k.size, fun i o hi ho hc => ?_⟩
            have e := J6.out.block i (lt_of_block ho) (by unfold At; omega)
            exact k.same i o (by omega) (e.trans ho) hc
          refine ⟨fun hu => ?_, fun hu => ?_⟩
          · obtain ⟨hj, hk⟩ := h1 hu
            have e5 := J5.out
            refine ⟨kY hk.keeps, ⟨by rw [← hYle]; exact hk.size, ?_, ?_⟩, ⟨?_, ?_, ?_, ?_, ?_, ?_⟩⟩
            · exact (hk.hi s (by omega) (lt_of_block e5.1)).trans (J6.out.block s (lt_of_block HI'.out.pc.1) (by unfold At; omega))
            · exact (hk.hi (s + 1) (by omega) (lt_of_block e5.2)).trans (J6.out.block (s + 1) (lt_of_block HI'.out.pc.2) (by unfold At; omega))
            · rw [HDT.out]; exact hj
            · exact ⟨hk.lo.1.trans J2.out.1, hk.lo.2.trans J2.out.2⟩
            · exact (hk.hi _ (Nat.le_refl _) (lt_of_block J3.out)).trans J3.out
            · rw [decide_eq_true HPIN.out]; exact (hk.hi _ (by omega) (lt_of_block J4.out)).trans J4.out
            · exact ⟨(hk.hi s (by omega) (lt_of_block e5.1)).trans e5.1, (hk.hi (s + 1) (by omega) (lt_of_block e5.2)).trans e5.2⟩
            · have := HI'.out.le; have := hk.size; omega
          · obtain ⟨hj, hk⟩ := h2 hu
            exact ⟨kY hk, _, HPRE.out, hj⟩
        have HFIN := Lib.hid fin
        clear hR hdt hpre hpin hlt' fin hv HW3
        subst hw3
        by_cases h : a ∈ pre
        · have b1 : decide (a ∈ pre) = true := decide_eq_true h
          rw [b1] at y2
          clear h b1 hvv hbe hin
          gi_wp2_with fail
          (with_reducible refine RoundIn.mono HR.out ?_)
          rintro e w4 ⟨u, rfl, hu1, hu2⟩
          have HU := Lib.hid (HFIN.out u w4 hu1 hu2)
          clear hu1 hu2 HR
          cases u with
          | true =>
            have HG := Lib.hid (HU.out.1 rfl)
            gi_wp2
            exact HG.out
          | false =>
            have HG := Lib.hid (HU.out.2 rfl)
            gi_wp2
            exact ⟨HG.out.1, rfl, HG.out.2⟩
        · have b1 : decide (a ∈ pre) = false := decide_eq_false h
          have b2 : (p == a) = true := by rcases hin with h' | h'; exact absurd h' h; simpa using h'
          rw [b1] at y2
          clear h b1 hvv hbe hin
          gi_wp2_with fail
          (with_reducible refine RoundIn.mono HR.out ?_)
          rintro e w4 ⟨u, rfl, hu1, hu2⟩
          have HU := Lib.hid (HFIN.out u w4 hu1 hu2)
          clear hu1 hu2 HR
          cases u with
          | true =>
            have HG := Lib.hid (HU.out.1 rfl)
            gi_wp2
            exact HG.out
          | false =>
            have HG := Lib.hid (HU.out.2 rfl)
            gi_wp2
            exact ⟨HG.out.1, rfl, HG.out.2⟩
      · have h1 : a ∉ pre := fun h => hin (.inl h)
        have h2 : p ≠ a := fun h => hin (.inr h)
        have hvf : v = false := by rw [hv]; simp [h1, h2]
        subst hvf
        have b1 : decide (a ∈ pre) = false := decide_eq_false h1
        have b2 : (p == a) = false := by simpa using h2
        rw [b1] at y2
        have hG : ownPostG wc.heap.size (Keep2 s (s + 1)) (RI W J bp bf b a l s f wc) (fun c' pre X => c' = .ret ∧ ∃ q, q <+: rowL L a ∧ Jx q X) (pre ++ [p]) Y .normal { tmps := #[], defers := [] } w3 := by
          have hno : a ∉ pre ++ [p] := fun e => by
            rcases List.mem_append.1 e with e | e
            · exact h1 e
            · exact h2 (List.mem_singleton.1 e).symm
          have e1 : dropTo a (pre ++ [p]) = dropTo a pre := by rw [dropTo_nil hno, dropTo_nil h1]
          refine ⟨⟨by omega, fun i o hi ho hc => (J6.out.block i (lt_of_block ho) (by unfold At; omega)).trans ho⟩, ⟨by omega, J6.out.block s (lt_of_block HI'.out.pc.1) (by unfold At; omega), J6.out.block (s + 1) (lt_of_block HI'.out.pc.2) (by unfold At; omega)⟩, ⟨by rw [e1]; exact J1.out, J2.out, J3.out, by rw [decide_eq_false hno]; exact J4.out, J5.out, by have := HI'.out.le; omega⟩⟩
        have HG := Lib.hid hG
        clear hG h1 h2 b1 hbe hin hv HW3
        subst hw3
        gi_wp2
        refine ⟨fun _ h => (by cases h), ?_⟩
        gi_wp2
        exact HG.out
    case done =>
      rintro D ys X hD rfl hI' hK
      have HI' := Lib.hid hI'
      clear hI'
      gi_wp2
      refine ⟨by simp, .inl ⟨_, _, rfl, run_takeDeferred hK, ?_⟩⟩
      refine ⟨_, results_none rfl _ _ _, ⟨_, rfl⟩, .inl ⟨_, HROW.out.symm, ?_⟩⟩
      exact HJ.out.own.putObj _ HI'.out.j (show W.heap.size ≤ D by omega) hK rfl
    case stop =>
      rintro D c' pre X hD hpre ⟨rfl, q, hq, hj⟩ hK
      have HQ := Lib.hid hj
      have HQP := Lib.hid hq
      clear hq hj
      gi_wp2
      refine ⟨by simp, .inl ⟨_, _, rfl, run_takeDeferred hK, ?_⟩⟩
      refine ⟨_, results_none rfl _ _ _, ⟨_, rfl⟩, .inr ⟨q, HQP.out, ?_⟩⟩
      exact HJx.out.own.putObj _ HQ.out (show W.heap.size ≤ D by omega) hK rfl
end Go.Proofs.Ytlcjiffnmpkndaa.Pl
