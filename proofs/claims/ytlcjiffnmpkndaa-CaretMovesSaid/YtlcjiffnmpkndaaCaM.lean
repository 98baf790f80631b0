/-
  The reference of layer 19: back.
-/
import Derived.Test.YtlcjiffnmpkndaaCaL
namespace Go.Proofs.Ytlcjiffnmpkndaa.Pl
open Go.RowKit Go.Shelf Base
set_option linter.unusedVariables false
set_option linter.unusedSimpArgs false

theorem back_none' {L : List Cl} (h : opsL L = []) (a : Int) (h0 : 1 ≤ L.length) : backC L a = 0 := by
  have hq := mv_bd (n := L.length) (a := a) (b := -2) (by omega)
  unfold backC
  rw [if_neg, prev_eq hq.1 hq.2, h]
  · rfl
  · rintro ⟨h1, h2, h3⟩
    have hr := ca_st (good_st h2).1
    have hm : befL L a ∈ opsL L := mem_ops.2 ⟨hr, h2⟩
    rw [h] at hm; cases hm
/-- With a field in a box. -/
structure R9F (w : World) (s gx n cap : Nat) (r c cur : Int) (L : List Cl) (ov : Value) (m : Nat) (sf : Nat) (fs fk fa : Int) (W : World) : Prop where
  r : R9R w s gx n cap r c cur L ov m W
  fb : W.heap[sf]? = some (.cells #[.int .i64 fs, .int .i64 fk, .int .u8 fa] 99 (0, 0))
theorem R9F.below {w W W' : World} {s gx n cap : Nat} {r c cur : Int} {L : List Cl} {ov : Value} {m sf : Nat} {fs fk fa : Int} (h : R9F w s gx n cap r c cur L ov m sf fs fk fa W) (t : Below W.heap.size W W') : R9F w s gx n cap r c cur L ov m sf fs fk fa W' :=
  ⟨h.r.below t, (t.block _ (lt_of_block h.fb)).trans h.fb⟩
set_option maxRecDepth 100000 in
set_option maxHeartbeats 8000000 in
theorem rback19_any {w : World} {gx n cap : Nat} {L : List Cl} (r c cur : Int) (hx : Rx w gx n cap L) (hbo : BoL L) (hcur : 0 ≤ cur ∧ cur < n) (hsz : cells r c = (n : Int)) : Calls Try.prog 22 #[xV r c (.slice (some ⟨gx, 0, none⟩) n cap) cur] w fun e W =>
    e = .returned (.int .i64 (backC L cur)) ∧ Below w.heap.size w W := by
  have hm := hx.most
  have hn : Hid (cells r c = (n : Int)) := Lib.hid hsz
  have hlL : L.length = n := hx.len
  have hln : (L.length : Int) = n := by rw [hlL]
  have hn1 : (1 : Int) ≤ (n : Int) := by omega
  have hn6 : (n : Int) ≤ 4096 := by omega
  have hn7 : (n = 0) = False := by rw [eq_iff_iff, iff_false]; omega
  obtain ⟨t, ht⟩ : ∃ t, t = backC L cur := ⟨_, rfl⟩
  obtain ⟨q, hq⟩ : ∃ q, q = mv n cur (-2) := ⟨_, rfl⟩
  have hqb := mv_bd (n := n) (a := cur) (b := -2) hn1
  rw [← hq] at hqb
  obtain ⟨iv, hiv⟩ : ∃ iv, iv = isF L cur := ⟨_, rfl⟩
  obtain ⟨⟨fs, fk, fa⟩, hf⟩ : ∃ f, f = ofF L cur := ⟨_, rfl⟩
  have hfs : iv = true → fs = befL L cur := by
    intro h
    have hb : befL L cur ≠ -1 := by rw [hiv] at h; unfold isF at h; simpa using h
    unfold ofF at hf; rw [if_neg hb] at hf
    exact (congrArg Fd.s hf).trans rfl
  have hfn : iv = false → befL L cur = -1 := by
    intro h; rw [hiv] at h; unfold isF at h; simpa using h
  have hfb : iv = true → 0 ≤ fs ∧ fs < n := by
    intro h
    have hb := bef_range (L := L) (by omega) cur
    have hb2 : befL L cur ≠ -1 := by rw [hiv] at h; unfold isF at h; simpa using h
    rw [hfs h]; omega
  -- where it comes to
  have hte1 : iv = true → fs ∈ opsL L → cur ≠ fs → cur ≠ mv n fs 1 → t = mv n fs 1 := by
    intro h h1 h2 h3
    rw [ht]; unfold backC
    rw [← hfs h, hln, if_pos ⟨Ne.symm h2, (mem_ops.1 h1).2, Ne.symm h3⟩]
  have hte2 : ¬ (iv = true ∧ fs ∈ opsL L ∧ cur ≠ fs ∧ cur ≠ mv n fs 1) → t = prevO n (opsL L) q := by
    intro h
    rw [ht]; unfold backC
    rw [if_neg, hln, ← hq, prev_eq hqb.1 (by rw [hln]; exact hqb.2), hln]
    rintro ⟨h1, h2, h3⟩
    cases hi : iv with
    | false =>
      rw [hfn hi] at h2
      have := ca_st (good_st h2).1
      omega
    | true =>
      rw [← hfs hi] at h1 h2 h3
      have hb := hfb hi
      exact h ⟨hi, mem_ops.2 ⟨by rw [hln]; exact hb, h2⟩, Ne.symm h1, by rw [← hln]; exact Ne.symm h3⟩
  have hnone : opsL L = [] → t = 0 := by intro h; rw [ht]; exact back_none' h cur (by omega)
  rw [← ht]
  have HT1 := Lib.hid hte1
  have HT2 := Lib.hid hte2
  have HNONE := Lib.hid hnone
  have HFB := Lib.hid hfb
  have HQ0 := Lib.hid hq
  have h1 := R9Q.begin hx r c cur
  obtain ⟨W0, hW0⟩ : ∃ W0, W0 = w.alloc (.cells #[.int .i64 r, .int .i64 c, .slice (some ⟨gx, 0, none⟩) n cap, .int .i64 cur] 29) := ⟨_, rfl⟩
  rw [← hW0] at h1
  have H1 := Lib.hid h1
  have HW0 := Lib.hid hW0.symm
  have HBO := Lib.hid hbo
  obtain ⟨q0, q1, q2, q3, _⟩ := h1.q
  have hol := ops_len L
  rw [hlL] at hol
  obtain ⟨m, hmm⟩ : ∃ m, m = (opsL L).length := ⟨_, rfl⟩
  have HMM := Lib.hid hmm
  have hop := ropens_any r c cur h1.rx hbo
  rw [← hmm] at hop hol
  have HOP := Lib.hid hop
  have hof : ∀ X, R9Q w w.heap.size gx n cap r c cur L X → Calls Try.prog 63 #[.agg #[.int .i64 r, .int .i64 c, .slice (some ⟨gx, 0, none⟩) n cap, .int .i64 cur], .int .i64 cur] X fun e W => e = .returned (.tuple #[.agg #[.int .i64 fs, .int .i64 fk, .int .u8 fa], .bool iv]) ∧ Below X.heap.size X W := by
    intro X h
    have := rof_any r c cur cur h.rx hbo
    rw [← hiv, ← hf] at this
    exact this
  have HOF := Lib.hid hof
  unfold xV at HOP ⊢
  clear hx hbo ht hq hiv hf hfs hfn hfb hte1 hte2 hnone h1 hW0 hop hmm hof hsz
  have hm0 : m = 0 ∨ 1 ≤ m := by omega
  rcases hm0 with hm0 | hm1
  · have hm2 : (m : Int) = 0 := by omega
    have HT0 := Lib.hid (HNONE.out (List.eq_nil_of_length_eq_zero (by rw [← HMM.out]; exact hm0)))
    go_enter Try.func22, Try.ntmps22
    go_upto_region 1 with fail
    rw [HW0.out]
    go_wp2_with (go_at_call 36; (with_reducible refine HOP.out.mono ?_); rintro e w1 ⟨ov, rfl, hor, hol, hb1⟩; obtain ⟨oa, ocap, rfl, hoa⟩ := rrow_shape hor; have HB1 := Lib.hid (show R9Q w w.heap.size gx n cap r c cur L w1 from H1.out.below hb1); obtain ⟨u0, u1, u2, u3, _⟩ := HB1.out.q; clear hor hol hoa hb1)
    go_ret
    rw [HT0.out]
    exact ⟨rfl, HB1.out.old⟩
  · have hmz : ((m : Int) == 0) = false := by rw [beq_eq_false_iff_ne]; omega
    obtain ⟨N, hN⟩ : ∃ N, m = N + 1 := ⟨m - 1, by omega⟩
    have HN1 := Lib.hid hN
    have hmN : (m : Int) - 1 = (N : Int) := by omega
    have hN0 : (0 : Int) ≤ (N : Int) := by omega
    have hN2 : (N : Int) < (m : Int) := by omega
    obtain ⟨ol, hol'⟩ : ∃ ol, (opsL L)[N]? = some ol := ⟨_, List.getElem?_eq_getElem (by rw [← HMM.out]; omega)⟩
    have HOL := Lib.hid hol'
    have hm60 : (m : Int) ≤ 4096 := by omega
    clear hol' hN
    go_enter Try.func22, Try.ntmps22
    go_upto_region 1 with fail
    rw [HW0.out]
    go_upto_region 6 with (first
      | (go_at_call 36; (with_reducible refine HOP.out.mono ?_); rintro e w1 ⟨ov, rfl, hor, hol, hb1⟩; obtain ⟨oa, ocap, rfl, hoa⟩ := rrow_shape hor; have HR1 := Lib.hid (show R9R w w.heap.size gx n cap r c cur L (.slice oa m ocap) m w1 from ⟨H1.out.below hb1, hor⟩); have HOA := Lib.hid hoa; obtain ⟨u0, u1, u2, u3, _⟩ := HR1.out.q.q; clear hor hol hoa hb1)
      | (go_at_call 63; (with_reducible refine (HOF.out _ HR1.out.q).mono ?_); rintro e w2 ⟨rfl, hb2⟩; have HR2 := Lib.hid (HR1.out.below hb2); clear hb2))
    obtain ⟨gr, rfl⟩ := HOA.out (by omega)
    have hba := below_alloc w2 (.cells #[.int .i64 fs, .int .i64 fk, .int .u8 fa] 99)
    have HF3 := Lib.hid (show R9F w w.heap.size gx n cap r c cur L (.slice (some ⟨gr, 0, none⟩) m ocap) m w2.heap.size fs fk fa (w2.alloc (.cells #[.int .i64 fs, .int .i64 fk, .int .u8 fa] 99)) from ⟨HR2.out.below hba, heap_alloc_new _ _⟩)
    obtain ⟨W3, hW3⟩ : ∃ W3, W3 = w2.alloc (.cells #[.int .i64 fs, .int .i64 fk, .int .u8 fa] 99) := ⟨_, rfl⟩
    obtain ⟨sf, hsf⟩ : ∃ sf, sf = w2.heap.size := ⟨_, rfl⟩
    rw [← hW3] at HF3 ⊢
    rw [← hsf] at HF3 ⊢
    clear hba hW3 hsf HR2 HR1 q0 q1 q2 q3 u0 u1 u2 u3
    obtain ⟨z, hz⟩ : ∃ z, z = mv n fs 1 := ⟨_, rfl⟩
    have HZ := Lib.hid hz
    have hzr : iv = true → (fs + 1).tmod (n : Int) = z := by
      intro h
      have := HFB.out h
      rw [Int.tmod_eq_emod_of_nonneg (by omega), hz, mv_pos (by omega)]
    have HZR := Lib.hid hzr
    clear hz hzr
    go_wp2_with fail
    go_loopw [7] (fun p wr => ∃ i : Nat, p = .int .i64 i ∧ i ≤ m ∧ (∀ j, j < i → ¬ (iv = true ∧ (opsL L)[j]? = some fs ∧ cur ≠ fs ∧ cur ≠ z)) ∧ R9F w w.heap.size gx n cap r c cur L (.slice (some ⟨gr, 0, none⟩) m ocap) m sf fs fk fa wr) (fun p _ => m - (intOf p).toNat)
    case atStart => exact ⟨0, rfl, Nat.zero_le _, fun j hj => absurd hj (Nat.not_lt_zero _), HF3.out⟩
    case round =>
      obtain ⟨i, rfl, hi, hno, hqq⟩ := hrel
      have HQ := Lib.hid hqq
      have HNO := Lib.hid hno
      obtain ⟨q0, q1, q2, q3, _⟩ := hqq.r.q.q
      have e0 : wr.cell? ⟨sf, 0, none⟩ = some (.int .i64 fs) := by simp [World.cell?, hqq.fb]
      clear hno HF3
      have hgo : (i = m ∨ iv = false) ∨ (i < m ∧ iv = true) := by
        cases iv with
        | false => exact .inl (.inr rfl)
        | true =>
          rcases Nat.lt_or_ge i m with h | h
          · exact .inr ⟨h, rfl⟩
          · exact .inl (.inl (by omega))
      rcases hgo with hgo | ⟨him, hivt⟩
      · -- the tail
        have hfin : ¬ (iv = true ∧ fs ∈ opsL L ∧ cur ≠ fs ∧ cur ≠ z) := by
          rintro ⟨h1, h2, h3, h4⟩
          rcases hgo with h | h
          · obtain ⟨j, hj, he⟩ := List.mem_iff_getElem.1 h2
            exact HNO.out j (by rw [h, HMM.out]; exact hj) ⟨h1, by rw [List.getElem?_eq_getElem hj, he], h3, h4⟩
          · rw [h] at h1; cases h1
        have HTE := Lib.hid (HT2.out (by rw [← HZ.out]; exact hfin))
        have hcond : (decide ((i : Int) < (m : Int)) && iv) = false := by
          rcases hgo with h | h
          · rw [h]; simp
          · rw [h]; simp
        have HR := Lib.hid hqq.r
        have gl := hqq.r.get HOL.out HMM.out
        clear hfin hqq
        have hgo2 : (i = m) ∨ ((i : Int) < (m : Int) ∧ iv = false) := by
          rcases hgo with h | h
          · exact .inl h
          · rcases Nat.lt_or_ge i m with h2 | h2
            · exact .inr ⟨by omega, h⟩
            · exact .inl (by omega)
        clear hgo hcond
        rcases hgo2 with hgo | ⟨hgo, hgv⟩
        · have him : m = i := hgo.symm
          clear hgo
          subst him
          have htt : ¬ (m : Int) < (m : Int) := by omega
          go_wp2_with (go_at_call 62; refine (rmove_any r c cur (-2) n wr hn (by omega) (by omega)).mono ?_; rintro e w4 ⟨he, hb4⟩; rw [← HQ0.out] at he; subst he; have HR4 := Lib.hid (HR.out.below hb4); have g4 := HR4.out.get HOL.out HMM.out; obtain ⟨v0, v1, v2, v3, _⟩ := HR4.out.q.q; clear hb4)
          go_loopw [9, 10] (fun p q' wx => ∃ (k : Nat) (B : Int), p = .int .i64 B ∧ q' = .int .i64 k ∧ k ≤ m ∧ Hid (B = (((opsL L).take k).reverse.find? (fun o => decide (o ≤ q))).getD ol) ∧ R9R w w.heap.size gx n cap r c cur L (.slice (some ⟨gr, 0, none⟩) m ocap) m wx) (fun _ q' _ => m - (intOf q').toNat)
          case atStart => exact ⟨0, ol, rfl, rfl, Nat.zero_le _, Lib.hid rfl, HR4.out⟩
          case round =>
            obtain ⟨k, B, rfl, rfl, hk, hB, hqx⟩ := hrel
            have HQX := Lib.hid hqx
            by_cases hkm : k < m
            · have hkm2 : (k : Int) < (m : Int) := by omega
              have hk0 : (0 : Int) ≤ (k : Int) := by omega
              obtain ⟨o, ho⟩ : ∃ o, (opsL L)[k]? = some o := ⟨_, List.getElem?_eq_getElem (by rw [← HMM.out]; exact hkm)⟩
              have gc := hqx.get ho HMM.out
              have htk : ((opsL L).take (k + 1)).reverse = o :: ((opsL L).take k).reverse := by
                obtain ⟨h1, h2⟩ := List.getElem?_eq_some_iff.1 ho
                rw [List.take_succ_eq_append_getElem h1, h2]; simp
              have HTK := Lib.hid htk
              clear hqx htk ho q0 q1 q2 q3 e0 v0 v1 v2 v3 g4 gl
              by_cases hoq : o ≤ q
              · go_wp2
                go_roundw
                case rel => exact ⟨k + 1, o, rfl, by go_num, by omega, Lib.hid (by rw [HTK.out]; simp [List.find?, hoq]), HQX.out⟩
                case measure => simp [intOf]; omega
              · have hqo : q < o := by omega
                go_wp2
                go_roundw
                case rel => exact ⟨k + 1, B, rfl, by go_num, by omega, Lib.hid (by rw [hB.out, HTK.out]; simp [List.find?, hoq]), HQX.out⟩
                case measure => simp [intOf]; omega
            · obtain rfl : m = k := by omega
              have hfull : (opsL L).take m = opsL L := List.take_of_length_le (by rw [HMM.out]; exact Nat.le_refl _)
              have hBb : 0 ≤ B ∧ B < n := by
                rw [hB.out, hfull]
                cases hf : (opsL L).reverse.find? (fun o => decide (o ≤ q)) with
                | none => have := (mem_ops.1 (List.mem_of_getElem? HOL.out)).1; rw [hln] at this; exact this
                | some o => have := (mem_ops.1 (List.mem_reverse.1 (List.mem_of_find?_eq_some hf))).1; rw [hln] at this; exact this
              have hend : t = mv n B 1 := by
                rw [HTE.out]
                unfold prevO
                rw [hB.out, hfull]
                cases hf : (opsL L).reverse.find? (fun o => decide (o ≤ q)) with
                | none => show headN n (opsL L).reverse = mv n ol 1; unfold headN; rw [List.head?_reverse, List.getLast?_eq_getElem?, ← HMM.out, HN1.out, Nat.add_sub_cancel, HOL.out]
                | some o => rfl
              have hrem : (B + 1).tmod (n : Int) = t := by rw [Int.tmod_eq_emod_of_nonneg (by omega), hend, mv_pos (by omega)]
              clear hqx hend hfull hB q0 q1 q2 q3 e0 v0 v1 v2 v3 g4 gl
              go_wp2
              go_ret
              exact ⟨rfl, HQX.out.q.old⟩
        · subst hgv
          go_wp2_with (go_at_call 62; refine (rmove_any r c cur (-2) n wr hn (by omega) (by omega)).mono ?_; rintro e w4 ⟨he, hb4⟩; rw [← HQ0.out] at he; subst he; have HR4 := Lib.hid (HR.out.below hb4); have g4 := HR4.out.get HOL.out HMM.out; obtain ⟨v0, v1, v2, v3, _⟩ := HR4.out.q.q; clear hb4)
          go_loopw [9, 10] (fun p q' wx => ∃ (k : Nat) (B : Int), p = .int .i64 B ∧ q' = .int .i64 k ∧ k ≤ m ∧ Hid (B = (((opsL L).take k).reverse.find? (fun o => decide (o ≤ q))).getD ol) ∧ R9R w w.heap.size gx n cap r c cur L (.slice (some ⟨gr, 0, none⟩) m ocap) m wx) (fun _ q' _ => m - (intOf q').toNat)
          case atStart => exact ⟨0, ol, rfl, rfl, Nat.zero_le _, Lib.hid rfl, HR4.out⟩
          case round =>
            obtain ⟨k, B, rfl, rfl, hk, hB, hqx⟩ := hrel
            have HQX := Lib.hid hqx
            by_cases hkm : k < m
            · have hkm2 : (k : Int) < (m : Int) := by omega
              have hk0 : (0 : Int) ≤ (k : Int) := by omega
              obtain ⟨o, ho⟩ : ∃ o, (opsL L)[k]? = some o := ⟨_, List.getElem?_eq_getElem (by rw [← HMM.out]; exact hkm)⟩
              have gc := hqx.get ho HMM.out
              have htk : ((opsL L).take (k + 1)).reverse = o :: ((opsL L).take k).reverse := by
                obtain ⟨h1, h2⟩ := List.getElem?_eq_some_iff.1 ho
                rw [List.take_succ_eq_append_getElem h1, h2]; simp
              have HTK := Lib.hid htk
              clear hqx htk ho q0 q1 q2 q3 e0 v0 v1 v2 v3 g4 gl
              by_cases hoq : o ≤ q
              · go_wp2
                go_roundw
                case rel => exact ⟨k + 1, o, rfl, by go_num, by omega, Lib.hid (by rw [HTK.out]; simp [List.find?, hoq]), HQX.out⟩
                case measure => simp [intOf]; omega
              · have hqo : q < o := by omega
                go_wp2
                go_roundw
                case rel => exact ⟨k + 1, B, rfl, by go_num, by omega, Lib.hid (by rw [hB.out, HTK.out]; simp [List.find?, hoq]), HQX.out⟩
                case measure => simp [intOf]; omega
            · obtain rfl : m = k := by omega
              have hfull : (opsL L).take m = opsL L := List.take_of_length_le (by rw [HMM.out]; exact Nat.le_refl _)
              have hBb : 0 ≤ B ∧ B < n := by
                rw [hB.out, hfull]
                cases hf : (opsL L).reverse.find? (fun o => decide (o ≤ q)) with
                | none => have := (mem_ops.1 (List.mem_of_getElem? HOL.out)).1; rw [hln] at this; exact this
                | some o => have := (mem_ops.1 (List.mem_reverse.1 (List.mem_of_find?_eq_some hf))).1; rw [hln] at this; exact this
              have hend : t = mv n B 1 := by
                rw [HTE.out]
                unfold prevO
                rw [hB.out, hfull]
                cases hf : (opsL L).reverse.find? (fun o => decide (o ≤ q)) with
                | none => show headN n (opsL L).reverse = mv n ol 1; unfold headN; rw [List.head?_reverse, List.getLast?_eq_getElem?, ← HMM.out, HN1.out, Nat.add_sub_cancel, HOL.out]
                | some o => rfl
              have hrem : (B + 1).tmod (n : Int) = t := by rw [Int.tmod_eq_emod_of_nonneg (by omega), hend, mv_pos (by omega)]
              clear hqx hend hfull hB q0 q1 q2 q3 e0 v0 v1 v2 v3 g4 gl
              go_wp2
              go_ret
              exact ⟨rfl, HQX.out.q.old⟩
      · have him2 : (i : Int) < (m : Int) := by omega
        have hi0 : (0 : Int) ≤ (i : Int) := by omega
        obtain ⟨o, ho⟩ : ∃ o, (opsL L)[i]? = some o := ⟨_, List.getElem?_eq_getElem (by rw [← HMM.out]; exact him)⟩
        have gc := hqq.r.get ho HMM.out
        have hfb := HFB.out hivt
        have hzr := HZR.out hivt
        have HO := Lib.hid ho
        clear hqq ho
        subst hivt
        have hdn : ∀ j, R9F w w.heap.size gx n cap r c cur L (.slice (some ⟨gr, 0, none⟩) m ocap) m sf fs fk fa (wr.drewN j) := fun j => HQ.out.below (below_dn wr j)
        have HDN := Lib.hid hdn
        have HD1 := Lib.hid (show R9F w w.heap.size gx n cap r c cur L (.slice (some ⟨gr, 0, none⟩) m ocap) m sf fs fk fa wr.drew from HQ.out.below (below_dn wr 1))
        clear hdn
        have hcase : (o ≠ fs) ∨ (o = fs ∧ cur = fs) ∨ (o = fs ∧ cur ≠ fs ∧ cur = z) ∨ (o = fs ∧ cur ≠ fs ∧ cur ≠ z) := by
          by_cases h1 : o = fs
          · by_cases h2 : cur = fs
            · exact .inr (.inl ⟨h1, h2⟩)
            · by_cases h3 : cur = z
              · exact .inr (.inr (.inl ⟨h1, h2, h3⟩))
              · exact .inr (.inr (.inr ⟨h1, h2, h3⟩))
          · exact .inl h1
        rcases hcase with h1 | ⟨h1, h2⟩ | ⟨h1, h2, h3⟩ | ⟨h1, h2, h3⟩
        · have b1 : (o == fs) = false := by simpa using h1
          have HNX : Hid (∀ j, j < i + 1 → ¬ (true = true ∧ (opsL L)[j]? = some fs ∧ cur ≠ fs ∧ cur ≠ z)) := Lib.hid (fun j hj => by
            rcases Nat.lt_or_ge j i with h | h
            · exact HNO.out j h
            · obtain rfl : j = i := by omega
              rintro ⟨_, g, _⟩; rw [HO.out] at g; exact h1 (Option.some.inj g))
          clear h1
          go_wp2_with fail
          go_quiet (fail)
          go_wp2
          go_roundw
          case rel => exact ⟨i + 1, by go_num, by omega, HNX.out, by first | exact HD1.out | exact HDN.out _ | exact HQ.out⟩
          case measure => simp [intOf]; omega
        · have b1 : (o == fs) = true := by simpa using h1
          have b2 : (cur != fs) = false := by simpa using h2
          have HNX : Hid (∀ j, j < i + 1 → ¬ (true = true ∧ (opsL L)[j]? = some fs ∧ cur ≠ fs ∧ cur ≠ z)) := Lib.hid (fun j hj => by
            rintro ⟨_, _, g, _⟩; exact g h2)
          clear h1 h2
          go_wp2_with fail
          go_quiet (fail)
          go_wp2
          go_roundw
          case rel => exact ⟨i + 1, by go_num, by omega, HNX.out, by first | exact HD1.out | exact HDN.out _ | exact HQ.out⟩
          case measure => simp [intOf]; omega
        · have b1 : (o == fs) = true := by simpa using h1
          have b2 : (cur != fs) = true := by simpa using h2
          have b3 : (cur != z) = false := by simpa using h3
          have HNX : Hid (∀ j, j < i + 1 → ¬ (true = true ∧ (opsL L)[j]? = some fs ∧ cur ≠ fs ∧ cur ≠ z)) := Lib.hid (fun j hj => by
            rintro ⟨_, _, _, g⟩; exact g h3)
          clear h1 h2 h3
          go_wp2_with fail
          go_quiet (fail)
          go_wp2
          go_roundw
          case rel => exact ⟨i + 1, by go_num, by omega, HNX.out, by first | exact HD1.out | exact HDN.out _ | exact HQ.out⟩
          case measure => simp [intOf]; omega
        · have b1 : (o == fs) = true := by simpa using h1
          have b2 : (cur != fs) = true := by simpa using h2
          have b3 : (cur != z) = true := by simpa using h3
          have HTE := Lib.hid (HT1.out rfl (by rw [← h1]; exact List.mem_of_getElem? HO.out) h2 (by rw [← HZ.out]; exact h3))
          clear h1 h2 h3
          go_wp2_with fail
          go_quiet (fail)
          go_wp2
          go_ret
          refine ⟨?_, by first | exact HD1.out.r.q.old | exact (HDN.out _).r.q.old | exact HQ.out.r.q.old⟩
          rw [HTE.out, ← HZ.out]; try rfl
end Go.Proofs.Ytlcjiffnmpkndaa.Pl
