/-
  The walk of OrderPrefix.
-/
import Derived.Test.YtjeknociobbhpaaDoorOrdAL
import Derived.Test.YtjeknociobbhpaaDoorOrdU
import Derived.Test.YtjeknociobbhpaaDoorOpenH
namespace Go.Proofs.YtjeknociobbhpaaDoor.Ord
open Go.RowKit Base Iac
set_option linter.unusedVariables false
set_option linter.unusedSimpArgs false

theorem CutRow.take {w : World} {a : Option Addr} {n c : Nat} {L : List Int} (h : CutRow w (.slice a n c) L) (m : Nat) (hm : m ≤ L.length) : CutRow w (.slice a m c) (L.take m) := by
  obtain ⟨h1, a', c', e, h2, h3⟩ := h
  injection e with e1 e2 e3
  subst e1 e3
  have hl : (L.take m).length = m := by rw [List.length_take]; omega
  refine ⟨?_, a, c, by rw [hl], by omega, h3⟩
  obtain ⟨a', c', e, hr⟩ := h1
  injection e with e1 _ e3
  subst e1 e3
  refine ⟨a, c, by rw [hl], fun hne => ?_⟩
  obtain ⟨b, off, ha, hc⟩ := hr (by intro e; rw [e] at hne; simp at hne)
  refine ⟨b, off, ha, fun i hi => ?_⟩
  rw [hl] at hi
  rw [hc i (by omega), List.getElem?_take_of_lt hi]
theorem errOf_none (g : Option Flt) : (g = none ∧ errOf g = 0) ∨ (errOf g == 0) = false := by
  rcases g with _ | f
  · exact .inl ⟨rfl, rfl⟩
  · right; cases f <;> rfl
theorem empty_row (W : World) : (W.alloc (.cells #[] 35)).ownsRow W.heap.size 35 6 (.slice (some ⟨W.heap.size, 0, none⟩) 0 0) 0 [] :=
  ⟨rfl, .inr ⟨W.heap.size, 0, #[], rfl, Nat.le_refl _, heap_alloc_new W _, Nat.le_refl _, by simp [maxLen], rfl, rfl⟩⟩
set_option maxRecDepth 100000 in
set_option maxHeartbeats 8000000 in
theorem orderPrefix_law {w : World} (v : Value) (A : List Int) (hA : CutRow w v A ∧ A.length ≤ maxLen ∧ ∀ n ∈ A, Open.Byte n) (u : Value) (B : List Int) (hB : CutRow w u B ∧ B.length ≤ maxLen ∧ ∀ n ∈ B, Open.Byte n) : Calls Tryd.prog 5 #[v, u] w fun e W' => e = .returned (.bool true) ∧ Below w.heap.size w W' := by
  obtain ⟨hA, _, hAb⟩ := hA
  obtain ⟨hB, _, hBb⟩ := hB
  obtain ⟨aa, ac, rfl⟩ : ∃ a c, v = .slice a A.length c := by obtain ⟨_, a, c, e, _⟩ := hA; exact ⟨a, c, e⟩
  obtain ⟨ba, bc, rfl⟩ : ∃ a c, u = .slice a B.length c := by obtain ⟨_, a, c, e, _⟩ := hB; exact ⟨a, c, e⟩
  have HA := Lib.hid hA
  have HB := Lib.hid hB
  have HAB := Lib.hid hAb
  have HBB := Lib.hid hBb
  obtain ⟨an, han⟩ : ∃ n, n = A.length := ⟨_, rfl⟩
  obtain ⟨bn, hbn⟩ : ∃ n, n = B.length := ⟨_, rfl⟩
  have HAN := Lib.hid han
  have HBN := Lib.hid hbn
  rw [← han] at HA ⊢
  rw [← hbn] at HB ⊢
  have HALI := Lib.hid (ord_alive w)
  clear hA hB hAb hBb han hbn
  by_cases h1 : 1000 < an
  · have h1i : (1000 : Int) < (an : Int) := by omega
    go_enter Tryd.func5, Tryd.ntmps5
    go_wp2_with fail
    refine HALI.out.mono ?_
    rintro e W1 ⟨rfl, b1⟩
    have HB1 := Lib.hid b1
    clear b1
    go_wp2_with fail
    go_ret
    exact ⟨rfl, HB1.out⟩
  have h1i : ¬ (1000 : Int) < (an : Int) := by omega
  by_cases h2 : 1000 < bn
  · have h2i : (1000 : Int) < (bn : Int) := by omega
    go_enter Tryd.func5, Tryd.ntmps5
    go_wp2_with fail
    refine HALI.out.mono ?_
    rintro e W1 ⟨rfl, b1⟩
    have HB1 := Lib.hid b1
    clear b1
    go_wp2_with fail
    go_ret
    exact ⟨rfl, HB1.out⟩
  have h2i : ¬ (1000 : Int) < (bn : Int) := by omega
  have HL1 : Hid (A.length ≤ 1000) := Lib.hid (by rw [← HAN.out]; omega)
  have HL2 : Hid (B.length ≤ 1000) := Lib.hid (by rw [← HBN.out]; omega)
  obtain ⟨⟨os, n, g⟩, hT⟩ : ∃ T, T = parseL A (A.length + 1) 0 := ⟨_, rfl⟩
  obtain ⟨⟨rest, k, f⟩, hU⟩ : ∃ T, T = parseL B (B.length + 1) 0 := ⟨_, rfl⟩
  obtain ⟨hn1, hhead, hfull⟩ := parse_head A os n g hT.symm
  obtain ⟨_, hs1, hs2, hs3⟩ := parse_small A HAB.out (by have := HL1.out; omega) os n g hT.symm
  obtain ⟨hk1, hs4, hs5, hs6⟩ := parse_small B HBB.out (by have := HL2.out; omega) rest k f hU.symm
  have hlt : (A.take n).length = n := by rw [List.length_take]; omega
  have htwo := parse_two (A.take n) B os rest k f (by rw [hlt] at hhead ⊢; exact hhead) hU.symm
  rw [hlt] at htwo
  have HT := Lib.hid hT.symm
  have HU := Lib.hid hU.symm
  have HHE := Lib.hid hhead
  have HTW := Lib.hid htwo
  have HS := Lib.hid (And.intro hs1 (And.intro hs2 hs3))
  have HS2 := Lib.hid (And.intro hs4 (And.intro hs5 hs6))
  have HN1 := Lib.hid hn1
  have HFU := Lib.hid hfull
  have HLT := Lib.hid hlt
  have hn1000 : n ≤ 1000 := by have := HL1.out; omega
  have hk1000 : k ≤ 1000 := by have := HL2.out; omega
  have hna : n ≤ an := by rw [HAN.out]; exact hn1
  clear hT hU hhead htwo hs1 hs2 hs3 hs4 hs5 hs6 hn1 hk1 hfull hlt
  obtain ⟨E, hE⟩ : ∃ E, E = errOf g := ⟨_, rfl⟩
  obtain ⟨F, hF⟩ : ∃ F, F = errOf f := ⟨_, rfl⟩
  have hEE : (E = 0 ∧ n = an) ∨ (E == 0) = false := by
    rcases errOf_none g with ⟨h1, h2⟩ | h
    · exact .inl ⟨hE.trans h2, by rw [HAN.out]; exact HFU.out h1⟩
    · exact .inr (by rw [hE]; exact h)
  have HE := Lib.hid hE
  have HF := Lib.hid hF
  have HEE := Lib.hid hEE
  clear hE hF hEE
  have hcap : an ≤ ac := by
    obtain ⟨_, _, _, e, hc, _⟩ := HA.out
    injection e with _ e2 e3
    subst e3
    rw [e2]; exact hc
  have hnc : (n : Int) ≤ (ac : Int) := by omega
  have hn0 : (0 : Int) ≤ (n : Int) := Int.natCast_nonneg _
  go_enter Tryd.func5, Tryd.ntmps5
  go_wp2_with fail
  refine HALI.out.mono ?_
  rintro e W1 ⟨rfl, b1⟩
  have HB1 := Lib.hid b1
  have HA1 := Lib.hid (HA.out.below b1)
  have HBR1 := Lib.hid (HB.out.below b1)
  clear b1 HA HB
  go_wp2_with fail
  have hc := parse_any _ A _ HA1.out HAB.out (by have := HL1.out; omega)
  rw [HT.out] at hc
  refine hc.mono ?_
  rintro e W2 ⟨u1, P1, he, hP1, hm1, b2⟩
  have he : e = .returned (.tuple #[u1, .int .i64 n, .int .i64 (errOf g)]) := he
  rw [← HE.out] at he
  subst he
  have HP1 := Lib.hid hP1
  have HM1 := Lib.hid hm1
  have HA2 := Lib.hid (HA1.out.below b2)
  have HBR2 := Lib.hid (HBR1.out.below b2)
  have HB2 := Lib.hid (HB1.out.trans (b2.mono HB1.out.size))
  clear hc hP1 hm1 b2 HA1 HBR1 HB1
  go_wp2_with fail
  have hc := parse_any _ (A.take n) _ (CutRow.take HA2.out n HN1.out) (fun x hx => HAB.out x (List.mem_of_mem_take hx)) (by rw [HLT.out]; omega)
  rw [HHE.out] at hc
  refine hc.mono ?_
  rintro e W3 ⟨u2, P2, he, hP2, hm2, b3⟩
  have he : e = .returned (.tuple #[u2, .int .i64 n, .int .i64 0]) := he
  subst he
  have HP2 := Lib.hid hP2
  have HM2 := Lib.hid hm2
  have HP13 := Lib.hid (HP1.out.below b3)
  have HA3 := Lib.hid (HA2.out.below b3)
  have HBR3 := Lib.hid (HBR2.out.below b3)
  have HB3 := Lib.hid (HB2.out.trans (b3.mono HB2.out.size))
  clear hc hP2 hm2 b3 HA2 HBR2 HB2 HP1
  have hsm := sames_any (L := os) (M := os) (by have := HP13.out.at; rwa [HM1.out] at this) (by have := HP2.out.at; rwa [HM2.out] at this) HS.out.2.2 HS.out.2.2 (by have := HS.out.1; have := HL1.out; omega) (by have := HS.out.1; have := HL1.out; omega)
  rw [decide_eq_true rfl] at hsm
  have HSM := Lib.hid hsm
  clear hsm
  have key : (E = 0 ∧ n = an) ∨ (E == 0) = false := HEE.out
  have cont : ∀ (W : World), Below W3.heap.size W3 W → Hid (OrdsOwn (W1.heap.size) W u1 P1) ∧ Hid (CutRow W (.slice aa an ac) A) ∧ Hid (CutRow W (.slice ba bn bc) B) ∧ Hid (Below w.heap.size w W) := fun W t => ⟨Lib.hid (HP13.out.below t), Lib.hid (HA3.out.below t), Lib.hid (HBR3.out.below t), Lib.hid (HB3.out.trans (t.mono HB3.out.size))⟩
  have CONT := Lib.hid cont
  clear cont HP13 HA3 HBR3 HB3 HP2 HM2
  rcases key with ⟨rfl, rfl⟩ | key
  all_goals
    go_wp2_with fail
    refine HSM.out.mono ?_
    rintro e W4 ⟨rfl, b4⟩
    obtain ⟨HP4, HA4, HBR4, HB4⟩ := CONT.out W4 b4
    clear b4
    go_wp2_with fail
    have hc := parse_any _ B _ HBR4.out HBB.out (by have := HL2.out; omega)
    rw [HU.out] at hc
    refine hc.mono ?_
    rintro e W5 ⟨u3, P3, he, hP3, hm3, b5⟩
    have he : e = .returned (.tuple #[u3, .int .i64 k, .int .i64 (errOf f)]) := he
    rw [← HF.out] at he
    subst he
    have HP35 := Lib.hid hP3
    have HM3 := Lib.hid hm3
    have HP15 := Lib.hid (HP4.out.below b5)
    have HA5 := Lib.hid (HA4.out.below b5)
    have HBR5 := Lib.hid (HBR4.out.below b5)
    have HB5 := Lib.hid (HB4.out.trans (b5.mono HB4.out.size))
    clear hc hP3 hm3 b5 HP4 HA4 HBR4 HB4
    go_wp2_with fail
    have hal := below_alloc W5 (.cells #[.slice aa n ac, .slice ba bn bc] 22)
    have hrj := rjoin_any _ [A.take n, B] _ (two_rows (w := W5) (CutRow.take HA5.out n HN1.out).1 HBR5.out.1) (by simp) (by have h1 := HL1.out; have h2 := HL2.out; have h3 := HLT.out; simp at h3 ⊢; omega)
    refine hrj.mono ?_
    rintro e W6 ⟨pj, rfl, hpj, b6⟩
    have hb56 := hal.trans (b6.mono hal.size)
    have hpj2 : OwnBytes (W5.heap.size + 1) W6 pj (A.take n ++ B) := by rw [World.size_alloc] at hpj; simpa using hpj
    have HPJ := Lib.hid hpj2
    have HP36 := Lib.hid (HP35.out.below hb56)
    have HP16 := Lib.hid (HP15.out.below hb56)
    have HB6 := Lib.hid (HB5.out.trans (hb56.mono HB5.out.size))
    clear hal hrj hpj b6 hb56 hpj2 HP35 HP15 HB5 HA5 HBR5
    go_wp2_with fail
    have hc := parse_any _ (A.take n ++ B) _ HPJ.out.cut (fun x hx => (List.mem_append.1 hx).elim (fun h => HAB.out x (List.mem_of_mem_take h)) (fun h => HBB.out x h)) (by have h1 := HL1.out; have h2 := HL2.out; have h3 := HLT.out; rw [List.length_append, h3]; omega)
    rw [HTW.out] at hc
    refine hc.mono ?_
    rintro e W7 ⟨u4, P4, he, hP4, hm4, b7⟩
    have he : e = .returned (.tuple #[u4, .int .i64 ((n + k : Nat) : Int), .int .i64 (errOf f)]) := he
    rw [← HF.out] at he
    subst he
    have HP47 := Lib.hid hP4
    have HM4 := Lib.hid hm4
    have HP37 := Lib.hid (HP36.out.below b7)
    have HP17 := Lib.hid (HP16.out.below b7)
    have HB7 := Lib.hid (HB6.out.trans (b7.mono HB6.out.size))
    clear hc hP4 hm4 b7 HP36 HP16 HB6 HPJ
    have hal7 := below_alloc W7 (.cells #[] 35)
    have HP18 := Lib.hid (HP17.out.below hal7)
    have hl1 : P1.length = os.length := by rw [← HM1.out, List.length_map]
    have hl3 : P3.length = rest.length := by rw [← HM3.out, List.length_map]
    have HLL := Lib.hid (And.intro hl1 hl3)
    have HOWN := Lib.hid (empty_row W7)
    clear hal7 hl1 hl3
    go_wp2_with (at_builtin; first
      | (refine append_ords (by rfl) _ _ rfl HOWN.out HP18.out rfl rfl (by have h1 := HLL.out.1; have h2 := HS.out.1; have h3 := HL1.out; omega) (by rw [World.size_alloc]; omega) ?_; intro v8 W8 hown8 hg8; have HOWN8 := Lib.hid hown8; have hb78 := Lib.hid ((below_alloc W7 (.cells #[] 35)).grown hg8 (by rw [World.size_alloc]; omega) (fun r e => row_first HOWN.out r e)); have HP38 := Lib.hid (HP37.out.below hb78.out); clear hown8 hg8)
      | (refine append_ords (by rfl) _ _ rfl HOWN8.out HP38.out rfl rfl (by have h1 := HLL.out.1; have h2 := HS.out.1; have h3 := HL1.out; have h4 := HLL.out.2; have h5 := HS2.out.1; have h6 := HL2.out; omega) hb78.out.size ?_; intro v9 W9 hown9 hg9; have HOWN9 := Lib.hid hown9; have hb79 := Lib.hid (hb78.out.grown hg9 hb78.out.size (fun r e => row_first HOWN8.out r e)); clear hown9 hg9))
    have hlow : LowP W7.heap.size W9 (P1 ++ P3) := fun p hp => by
      rcases List.mem_append.1 hp with hp | hp
      · exact (HP17.out.lowP.keep (fun g hg _ => hb79.out.block g hg) hb79.out.size) p hp
      · exact (HP37.out.lowP.keep (fun g hg _ => hb79.out.block g hg) hb79.out.size) p hp
    have hjq : JQ W7.heap.size W9 v9 (P1 ++ P3) := hlow.jq (by
      have := HOWN9.out
      rw [Nat.zero_add, List.nil_append, ← ordC_append] at this
      rw [List.length_append]
      exact this)
    have hat : OrdsAt W9 v9 (os ++ rest) := by
      have := hjq.at
      rwa [List.map_append, HM1.out, HM3.out] at this
    have hjo := joined_any v9 (os ++ rest) W9 hat (by rw [List.length_append]; have h2 := HS.out.1; have h3 := HL1.out; have h5 := HS2.out.1; have h6 := HL2.out; omega) (by rw [dsum_append]; have h2 := HS.out.2.1; have h3 := HL1.out; have h5 := HS2.out.2.1; have h6 := HL2.out; omega)
    refine hjo.mono ?_
    rintro e W10 ⟨u5, P5, rfl, hj5, hm5, b10⟩
    have hb710 := hb79.out.trans (b10.mono hb79.out.size)
    have hat4 : OrdsAt W10 u4 (joinO (os ++ rest)) := by
      have := HP47.out.at
      rw [show P4.map (·.1) = joinO (os ++ rest) from HM4.out] at this
      exact this.below hb710
    have hat5 : OrdsAt W10 u5 (joinO (os ++ rest)) := by
      have := hj5.at
      rwa [hm5] at this
    obtain ⟨_, q1, q2, q3⟩ := parse_small (A.take n ++ B) (fun x hx => (List.mem_append.1 hx).elim (fun h => HAB.out x (List.mem_of_mem_take h)) (fun h => HBB.out x h)) (by have h1 := HL1.out; have h2 := HL2.out; have h3 := HLT.out; rw [List.length_append, h3]; omega) _ _ _ HTW.out
    have hql : (joinO (os ++ rest)).length ≤ 1000000 := by have h1 := HL1.out; have h2 := HL2.out; have h3 := HLT.out; rw [List.length_append, h3] at q1; omega
    have hsm := sames_any hat4 hat5 q3 q3 hql hql
    rw [decide_eq_true rfl] at hsm
    have HSM2 := Lib.hid hsm
    have HB10 := Lib.hid (HB7.out.trans (hb710.mono HB7.out.size))
    clear hlow hjq hat hjo hj5 hm5 b10 hb710 hat4 hat5 q1 q2 q3 hql hsm HOWN HOWN8 HOWN9 hb78 hb79
    go_wp2_with fail
    refine HSM2.out.mono ?_
    rintro e W11 ⟨rfl, b11⟩
    have HB11 := Lib.hid (HB10.out.trans (b11.mono HB10.out.size))
    clear b11
    go_wp2_with fail
    go_ret
    exact ⟨rfl, HB11.out⟩
end Go.Proofs.YtjeknociobbhpaaDoor.Ord
