/-
  The walk of AttrTexts.
-/
import Derived.Test.YtllfieefmnjplaaAttrPairsWalk
namespace Go.Proofs.Ytllfieefmnjplaa.Attr
open Go.RowKit Base
set_option linter.unusedVariables false

theorem dress1_same (c d : Cl) (p : Int × Int) : dress1 (dress1 c p) p = dress1 c p := by
  obtain ⟨a, b, e, f, g⟩ := c
  obtain ⟨t, x⟩ := p
  rw [dress1_eq, dress1_eq]
  simp only [Cl.mk.injEq, true_and]
  refine ⟨?_, ?_, ?_⟩
  · split <;> simp_all
  · split <;> simp_all
  · split <;> simp_all
/-- What a row of pairs lays at each of the three places, or nothing. -/
def lastB : List (Int × Int) → Option Int
  | [] => none
  | p :: L => match lastB L with | some x => some x | none => if p.1 = 192 then some (p.2 % 64) else none
def lastL : List (Int × Int) → Option Int
  | [] => none
  | p :: L => match lastL L with | some x => some x | none => if p.1 = 65 then some p.2 else if p.1 = 0 then some 0 else none
def lastC : List (Int × Int) → Option Int
  | [] => none
  | p :: L => match lastC L with | some x => some x | none => if p.1 = 66 then some p.2 else if p.1 = 0 then some 0 else none
theorem dress_last (L : List (Int × Int)) : ∀ c : Cl, dress c L = ⟨(lastB L).getD c.b, c.ge, c.st, (lastL L).getD c.li, (lastC L).getD c.co⟩ := by
  induction L with
  | nil => intro c; rfl
  | cons p L ih =>
    intro c
    obtain ⟨a, b, e, f, g⟩ := c
    obtain ⟨t, x⟩ := p
    show dress (dress1 ⟨a, b, e, f, g⟩ (t, x)) L = _
    rw [ih, dress1_eq]
    simp only [lastB, lastL, lastC]
    refine Cl.ext' ?_ rfl rfl ?_ ?_
    · show (lastB L).getD _ = _
      cases lastB L with
      | some y => rfl
      | none => by_cases h : t = 192 <;> simp [h]
    · show (lastL L).getD _ = _
      cases lastL L with
      | some y => rfl
      | none => by_cases h : t = 65 <;> by_cases h' : t = 0 <;> simp [h, h']
    · show (lastC L).getD _ = _
      cases lastC L with
      | some y => rfl
      | none => by_cases h : t = 66 <;> by_cases h' : t = 0 <;> simp [h, h']
theorem dress_twice (c : Cl) (L : List (Int × Int)) : dress (dress c L) L = dress c L := by
  rw [dress_last L c, dress_last L]
  refine Cl.ext' ?_ rfl rfl ?_ ?_
  · show (lastB L).getD _ = _
    cases lastB L <;> rfl
  · show (lastL L).getD _ = _
    cases lastL L <;> rfl
  · show (lastC L).getD _ = _
    cases lastC L <;> rfl
/-- Unlike quadruples have unlike words. -/
theorem txt_fin : ∀ P N : Bool, ∀ s : Fin 4, ∀ M : Bool, ∀ P' N' : Bool, ∀ s' : Fin 4, ∀ M' : Bool, ((txt P N (s.val : Int) M).toList == (txt P' N' (s'.val : Int) M').toList) = (decide (P = P') && decide (N = N') && decide (s = s') && decide (M = M')) := by decide +kernel
theorem xor_fin : ∀ a : Fin 256, ∀ b : Fin 256, (bits .and .u8 (bits .xor .u8 (a.val : Int) (b.val : Int)) 61 == 0) = (decide (prot (a.val : Int) = prot (b.val : Int)) && decide (nume (a.val : Int) = nume (b.val : Int)) && decide ((a.val : Int) / 4 % 4 = (b.val : Int) / 4 % 4) && decide (modi (a.val : Int) = modi (b.val : Int))) := by decide +kernel
theorem words_xor (a b : Int) (a0 : 0 ≤ a) (a1 : a ≤ 255) (b0 : 0 ≤ b) (b1 : b ≤ 255) : ((words a).toList == (words b).toList) = (bits .and .u8 (bits .xor .u8 a b) 61 == 0) := by
  have h := xor_fin ⟨a.toNat, by omega⟩ ⟨b.toNat, by omega⟩
  simp only [Int.toNat_of_nonneg a0, Int.toNat_of_nonneg b0] at h
  rw [h]
  have k := txt_fin (prot a) (nume a) ⟨(a / 4 % 4).toNat, by omega⟩ (modi a) (prot b) (nume b) ⟨(b / 4 % 4).toNat, by omega⟩ (modi b)
  simp only [Int.toNat_of_nonneg (show 0 ≤ a / 4 % 4 by omega), Int.toNat_of_nonneg (show 0 ≤ b / 4 % 4 by omega)] at k
  unfold words
  rw [k]
  congr 2
  rw [Bool.eq_iff_iff]
  simp only [decide_eq_true_eq, Fin.mk.injEq]
  omega
set_option maxRecDepth 100000 in
set_option maxHeartbeats 4000000 in
theorem attrTexts_law {w : World} (a : Int) (ha : (Lit.int .u8 a).wf = true) (b : Int) (hb : (Lit.int .u8 b).wf = true) (c : Cl) (hc : Open.ClOk c) (v : Value) (L : List (Int × Int)) (hL : Open.PairsCut w v L ∧ L.length ≤ maxLen ∧ ∀ p ∈ L, Open.Byte2 p) :
    Calls Try.prog 5 #[.int .u8 a, .int .u8 b, .agg (clA c), v] w fun e W' => e = .returned (.bool true) ∧ Below w.heap.size w W' := by
  have hzc := (zero_of_info info_cl).1
  unfold zcl at hzc
  obtain ⟨a0, a1⟩ := u8_bd ha
  obtain ⟨b0, b1⟩ := u8_bd hb
  obtain ⟨hcut, hl, hby⟩ := hL
  have HR := Lib.hid hcut.1
  have HBY := Lib.hid hby
  obtain ⟨_, av, cv, rfl, _, _⟩ := hcut
  obtain ⟨n, hn⟩ : ∃ n, n = L.length := ⟨_, rfl⟩
  have HN := Lib.hid hn
  unfold maxLen at hl
  rw [← hn] at hl HR ⊢
  obtain ⟨s, hs⟩ : ∃ s, s = w.heap.size := ⟨_, rfl⟩
  have HS := Lib.hid hs.symm
  obtain ⟨A, hA⟩ : ∃ A, A = clA c := ⟨_, rfl⟩
  have hq0 : BxQ w s A (w.alloc (.cells A 33)) := ⟨below_alloc _ _, by rw [hs]; exact heap_alloc_new w _⟩
  obtain ⟨W0, hW0⟩ : ∃ W0, W0 = w.alloc (.cells A 33) := ⟨_, rfl⟩
  rw [← hW0] at hq0
  rw [hA] at hW0
  have HT : Hid (∀ (x : Int) (W : World), x = a ∨ x = b → Calls Try.prog 25 #[.int .u8 x] W fun e w' => e = .returned (.string (words x)) ∧ W = w') := Lib.hid fun x W hx => text_any x W (by omega) (by omega)
  have hX := words_xor a b a0 a1 b0 b1
  obtain ⟨X, hXX⟩ : ∃ X, X = (bits .and .u8 (bits .xor .u8 a b) 61 == 0) := ⟨_, rfl⟩
  rw [← hXX] at hX
  have hY := hXX.symm
  clear hXX
  generalize words = T at HT hX
  have HDR : Hid (∀ (y : Cl) (W : World), Below w.heap.size w W → Calls Try.prog 29 #[.agg (clA y), .slice av n cv] W fun e w' => e = .returned (.agg (clA (dress y L))) ∧ Below W.heap.size W w') := Lib.hid fun y W hb =>
    dress_any y _ L W (HR.out.below hb) (by unfold maxLen; rw [← HN.out]; omega) HBY.out
  have hd1 := HDR.out c
  have hd2 := HDR.out (dress c L)
  rw [dress_twice] at hd2
  generalize dress c L = F at hd1 hd2
  obtain ⟨fb, fg, fs, fl, fc⟩ := F
  obtain ⟨cb, cg, cs, cl, cc⟩ := c
  unfold clA at hd1 hd2 hW0
  have HD1 := Lib.hid hd1
  have HD2 := Lib.hid hd2
  have HW0 := Lib.hid hW0.symm
  have HQ0 := Lib.hid hq0
  have HA := Lib.hid hA
  clear hn hs hby hW0 hq0 ha hb hA hc hd1 hd2 HDR a0 a1 b0 b1
  unfold clA
  go_enter Try.func5, Try.ntmps5
  go_upto_region 1 with fail
  rw [HW0.out, HS.out]
  go_wp2_with fail
  refine (attr_alive W0).mono ?_
  rintro e W1 ⟨rfl, hb1⟩
  have HQ1 := Lib.hid (HQ0.out.below hb1)
  clear hb1
  by_cases hbig : 100 < n
  · have hbig' : (100 : Int) < n := by omega
    go_wp2_with fail
    go_ret
    exact ⟨rfl, HQ1.out.old⟩
  have hsm : (n : Int) ≤ 100 := by omega
  clear hbig
  obtain ⟨c0, c1, c2, c3, c4, _⟩ := HQ1.out.s5 HA.out
  go_wp2_with fail
  refine (HD1.out W1 HQ1.out.old).mono ?_
  rintro e W2 ⟨rfl, hb2⟩
  have hq2 := HQ1.out.below hb2
  have hp3 := heap_alloc_new W2 (.cells (clA ⟨fb, fg, fs, fl, fc⟩) 33)
  have hq3 := hq2.below (below_alloc W2 (.cells (clA ⟨fb, fg, fs, fl, fc⟩) 33))
  obtain ⟨W3, hW3⟩ : ∃ W3, W3 = W2.alloc (.cells (clA ⟨fb, fg, fs, fl, fc⟩) 33) := ⟨_, rfl⟩
  obtain ⟨p, hp⟩ : ∃ p, p = W2.heap.size := ⟨_, rfl⟩
  obtain ⟨B, hB⟩ : ∃ B, B = clA ⟨fb, fg, fs, fl, fc⟩ := ⟨_, rfl⟩
  rw [← hW3] at hp3 hq3
  rw [← hp, ← hB] at hp3
  have hqp : BxQ w p B W3 := ⟨hq3.old, hp3⟩
  unfold clA at hW3
  have HQ := Lib.hid hqp
  have HW3 := Lib.hid hW3.symm
  have HP := Lib.hid hp.symm
  have HB := Lib.hid hB
  clear hb2 hq2 hp3 hq3 hW3 hp hB hqp c0 c1 c2 c3 c4
  go_upto_region 6 with fail
  rw [HW3.out, HP.out]
  cases X
  all_goals
    obtain ⟨c0, c1, c2, c3, c4, _⟩ := HQ.out.s5 HB.out
    first
    | (go_region_held3 (fun W => W.cell? ⟨p, 0, none⟩ = some (.int .u8 fb) ∧ W.cell? ⟨p, 1, none⟩ = some (.bool fg) ∧ W.cell? ⟨p, 2, none⟩ = some (.bool fs) ∧ W.cell? ⟨p, 3, none⟩ = some (.int .u8 fl) ∧ W.cell? ⟨p, 4, none⟩ = some (.int .u8 fc) ∧ BxQ w p B W)
        (with_reducible (first | assumption | exact BxQ.s5 HB.out HQ.out | exact BxQ.s5 HB.out HQ.out.drew | exact BxQ.s5 HB.out HF.out | exact BxQ.s5 HB.out HF.out.drew | exact BxQ.s5 HB.out (BxQ.drew (BxQ.of_s (by assumption)))))
        (first
          | (go_at_call 25; refine (HT.out _ _ (by simp)).mono ?_; rintro e2 w2 ⟨rfl, rfl⟩)
          | (go_at_call 29; refine (HD2.out _ (BxQ.old (BxQ.of_s (by assumption) : BxQ w p B _))).mono ?_; rintro e2 w2 ⟨rfl, hb2⟩; have HF := Lib.hid ((BxQ.of_s (by assumption) : BxQ w p B _).below hb2); clear hb2)))
    | fail
    all_goals
      go_wp2
      go_ret
      first | exact ⟨rfl, HF.out.old⟩ | exact ⟨rfl, HF.out.drew.old⟩ | exact ⟨rfl, below_drewN HF.out.old _⟩
end Go.Proofs.Ytllfieefmnjplaa.Attr
