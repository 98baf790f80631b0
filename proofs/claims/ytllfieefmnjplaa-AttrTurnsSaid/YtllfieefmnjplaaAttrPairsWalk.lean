/-
  The walk of AttrPairs.
-/
import Derived.Test.YtllfieefmnjplaaAttrE
import Derived.Test.YtllfieefmnjplaaAttrF
import Derived.Test.YtllfieefmnjplaaOpenA
namespace Go.Proofs.Ytllfieefmnjplaa.Attr
open Go.RowKit Base
set_option linter.unusedVariables false

/-- A cell that came in, in a box at s. -/
structure BxQ (w : World) (s : Nat) (A : Array Value) (W : World) : Prop where
  old : Below w.heap.size w W
  box : W.heap[s]? = some (.cells A 33 (0, 0))
theorem BxQ.below {w W W' : World} {s : Nat} {A : Array Value} (h : BxQ w s A W) (t : Below W.heap.size W W') : BxQ w s A W' :=
  ⟨h.old.trans (t.mono h.old.size), (t.block s (lt_of_block h.box)).trans h.box⟩
theorem BxQ.drew {w W : World} {s : Nat} {A : Array Value} (h : BxQ w s A W) : BxQ w s A W.drew := ⟨below_drewN h.old 1, h.box⟩
theorem BxQ.s5 {w W : World} {s : Nat} {A : Array Value} {a : Int} {b c : Bool} {d e : Int} (hA : A = clA ⟨a, b, c, d, e⟩) (h : BxQ w s A W) :
    W.cell? ⟨s, 0, none⟩ = some (.int .u8 a) ∧ W.cell? ⟨s, 1, none⟩ = some (.bool b) ∧ W.cell? ⟨s, 2, none⟩ = some (.bool c) ∧ W.cell? ⟨s, 3, none⟩ = some (.int .u8 d) ∧ W.cell? ⟨s, 4, none⟩ = some (.int .u8 e) ∧ BxQ w s A W := by
  have hb := h.box
  rw [hA] at hb
  exact ⟨by simp [World.cell?, hb, clA], by simp [World.cell?, hb, clA], by simp [World.cell?, hb, clA], by simp [World.cell?, hb, clA], by simp [World.cell?, hb, clA], h⟩
theorem BxQ.of_s {w W : World} {s : Nat} {A : Array Value} {a b c d e : Prop} (h : a ∧ b ∧ c ∧ d ∧ e ∧ BxQ w s A W) : BxQ w s A W := h.2.2.2.2.2
def PRel (w : World) (s : Nat) (A : Array Value) (n : Nat) (i : Value) (wr : World) : Prop := ∃ k, k ≤ n ∧ i = .int .i64 (k : Nat) ∧ BxQ w s A wr
set_option maxRecDepth 100000 in
set_option maxHeartbeats 4000000 in
theorem attrPairs_law {w : World} (c : Cl) (hc : Open.ClOk c) (k : Int) (hk : (Lit.int .u8 k).wf = true) (v : Value) (L : List (Int × Int)) (hL : Open.PairsCut w v L ∧ L.length ≤ maxLen ∧ ∀ p ∈ L, Open.Byte2 p) :
    Calls Try.prog 4 #[.agg (clA c), .int .u8 k, v] w fun e W' => e = .returned (.bool true) ∧ Below w.heap.size w W' := by
  have hzc := (zero_of_info info_cl).1
  have hzp := (zero_of_info info_pr).1
  obtain ⟨hcut, hl, hby⟩ := hL
  have HR := Lib.hid hcut.1
  have HBY := Lib.hid hby
  obtain ⟨_, av, cv, rfl, _, _⟩ := hcut
  obtain ⟨n, hn⟩ : ∃ n, n = L.length := ⟨_, rfl⟩
  have HN := Lib.hid hn
  unfold maxLen at hl
  rw [← hn] at hl HR ⊢
  obtain ⟨s, hs⟩ : ∃ s, s = w.heap.size := ⟨_, rfl⟩
  have HS := Lib.hid hs.symm
  obtain ⟨A, hA⟩ : ∃ A, A = clA c := ⟨_, rfl⟩
  have hq0 : BxQ w s A (w.alloc (.cells A 33)) := ⟨below_alloc _ _, by rw [hs]; exact heap_alloc_new w _⟩
  obtain ⟨W0, hW0⟩ : ∃ W0, W0 = w.alloc (.cells A 33) := ⟨_, rfl⟩
  rw [← hW0] at hq0
  rw [hA] at hW0
  obtain ⟨cb, cg, cs, cl, cc⟩ := c
  unfold clA at hW0
  have HW0 := Lib.hid hW0.symm
  have HQ0 := Lib.hid hq0
  have HA := Lib.hid hA
  clear hn hs hby hW0 hq0 hk hA hc
  have HDR : Hid (∀ W : World, Below w.heap.size w W → Calls Try.prog 29 #[.agg #[.int .u8 cb, .bool cg, .bool cs, .int .u8 cl, .int .u8 cc], .slice av n cv] W fun e w' => e = .returned (.agg (clA (dress ⟨cb, cg, cs, cl, cc⟩ L))) ∧ Below W.heap.size W w') := Lib.hid fun W hb =>
    dress_any ⟨cb, cg, cs, cl, cc⟩ _ L W (HR.out.below hb) (by unfold maxLen; rw [← HN.out]; omega) HBY.out
  have HRD : Hid (∀ W : World, Below w.heap.size w W → Calls Try.prog 30 #[.agg #[.int .u8 cb, .bool cg, .bool cs, .int .u8 cl, .int .u8 cc], .slice av n cv] W fun e w' => e = .returned (.agg (clA (dress ⟨cb, cg, cs, cl, cc⟩ L))) ∧ Below W.heap.size W w') := Lib.hid fun W hb =>
    rdress_any ⟨cb, cg, cs, cl, cc⟩ _ L W (HR.out.below hb) (by unfold maxLen; rw [← HN.out]; omega) HBY.out
  obtain ⟨F, hF⟩ : ∃ F, F = dress ⟨cb, cg, cs, cl, cc⟩ L := ⟨_, rfl⟩
  rw [← hF] at HDR HRD
  clear hF
  obtain ⟨fb, fg, fs, fl, fc⟩ := F
  unfold clA at HDR HRD
  unfold clA
  go_enter Try.func4, Try.ntmps4
  go_upto_region 1 with fail
  rw [HW0.out, HS.out]
  go_wp2_with fail
  refine (attr_alive W0).mono ?_
  rintro e W1 ⟨rfl, hb1⟩
  have HQ1 := Lib.hid (HQ0.out.below hb1)
  clear hb1
  by_cases hbig : 100 < n
  · have hbig' : (100 : Int) < n := by omega
    go_wp2_with fail
    go_ret
    exact ⟨rfl, HQ1.out.old⟩
  have hsm : (n : Int) ≤ 100 := by omega
  clear hbig
  go_upto_region 6 with fail
  go_loopw [17] (fun i wr => PRel w s A n i wr) (fun i _ => n - (intOf i).toNat)
  case atStart => exact ⟨0, Nat.zero_le _, rfl, HQ1.out⟩
  case round =>
    obtain ⟨j, hj, rfl, hq⟩ := hrel
    have HQ := Lib.hid hq
    by_cases hjn : j < n
    · have hjl : j < L.length := by rw [← HN.out]; exact hjn
      have hne : L ≠ [] := by intro e; rw [e] at hjl; simp at hjl
      obtain ⟨a', c', e', hc⟩ := HR.out.below hq.old
      injection e' with e1 e2 e3
      subst e1 e3
      obtain ⟨g, off, rfl, hcell⟩ := hc hne
      obtain ⟨d0, d1⟩ := hcell j hjl
      obtain ⟨t, ht⟩ : ∃ t, t = (L[j]?.getD (0, 0)).1 := ⟨_, rfl⟩
      obtain ⟨x, hx⟩ : ∃ x, x = (L[j]?.getD (0, 0)).2 := ⟨_, rfl⟩
      rw [← ht] at d0
      rw [← hx] at d1
      have hjn' : (j : Int) < (n : Int) := by omega
      clear hq hc hcell ht hx e2 hne hjl hj
      have HCK : Hid (∀ W : World, Calls Try.prog 27 #[.int .u8 k, .agg #[.int .u8 t, .int .u8 x]] W fun e w' => e = .returned (.int .i64 (if chk k t x = true then 0 else 33)) ∧ Below W.heap.size W w') := Lib.hid fun W => check_any k t x W
      have HRK : Hid (∀ W : World, Calls Try.prog 28 #[.int .u8 k, .agg #[.int .u8 t, .int .u8 x]] W fun e w' => e = .returned (.bool (chk k t x)) ∧ Below W.heap.size W w') := Lib.hid fun W => rcheck_any k t x W
      generalize chk k t x = Q at HCK HRK
      have hp2 := heap_alloc_new wr (.cells #[.int .u8 t, .int .u8 x] 36)
      have hq2 := HQ.out.below (below_alloc wr (.cells #[.int .u8 t, .int .u8 x] 36))
      obtain ⟨W2, hW2⟩ : ∃ W2, W2 = wr.alloc (.cells #[.int .u8 t, .int .u8 x] 36) := ⟨_, rfl⟩
      obtain ⟨p, hp⟩ : ∃ p, p = wr.heap.size := ⟨_, rfl⟩
      rw [← hW2] at hp2 hq2
      rw [← hp] at hp2
      have HP2 := Lib.hid hp2
      have HQ2 := Lib.hid hq2
      have HW2 := Lib.hid hW2.symm
      have HP := Lib.hid hp.symm
      have c0 : W2.cell? ⟨p, 0, none⟩ = some (.int .u8 t) := by simp [World.cell?, hp2]
      have c1 : W2.cell? ⟨p, 1, none⟩ = some (.int .u8 x) := by simp [World.cell?, hp2]
      clear hp2 hq2 hW2 hp
      go_upto_region 8 with fail
      rw [HW2.out, HP.out]
      cases Q
      all_goals
        go_wp2_with fail
        refine (HCK.out W2).mono ?_
        rintro e W3 ⟨rfl, hb3⟩
        have HQ3 := Lib.hid (HQ2.out.below hb3)
        have hp3 := (hb3.block p (lt_of_block HP2.out)).trans HP2.out
        have c2 : W3.cell? ⟨p, 0, none⟩ = some (.int .u8 t) := by simp [World.cell?, hp3]
        have c3 : W3.cell? ⟨p, 1, none⟩ = some (.int .u8 x) := by simp [World.cell?, hp3]
        clear hb3 hp3
        go_wp2_with fail
        refine (HRK.out W3).mono ?_
        rintro e W4 ⟨rfl, hb4⟩
        have HQ4 := Lib.hid (HQ3.out.below hb4)
        clear hb4
        go_wp2_with fail
        go_roundw
        case rel => exact ⟨j + 1, by omega, by go_num, HQ4.out⟩
        case measure => simp [intOf]; omega
    · obtain rfl : j = n := by omega
      obtain ⟨c0, c1, c2, c3, c4, _⟩ := HQ.out.s5 HA.out
      clear hq
      go_upto_region 12 with fail
      first
      | (go_region_held3 (fun W => W.cell? ⟨s, 0, none⟩ = some (.int .u8 cb) ∧ W.cell? ⟨s, 1, none⟩ = some (.bool cg) ∧ W.cell? ⟨s, 2, none⟩ = some (.bool cs) ∧ W.cell? ⟨s, 3, none⟩ = some (.int .u8 cl) ∧ W.cell? ⟨s, 4, none⟩ = some (.int .u8 cc) ∧ BxQ w s A W)
          (with_reducible (first | assumption | exact BxQ.s5 HA.out HQ.out | exact BxQ.s5 HA.out HQ.out.drew | exact BxQ.s5 HA.out HF.out | exact BxQ.s5 HA.out HF.out.drew))
          (first
            | (go_at_call 29; refine (HDR.out _ (BxQ.old (BxQ.of_s (by assumption) : BxQ w s A _))).mono ?_; rintro e2 w2 ⟨rfl, hb2⟩; have HF := Lib.hid ((BxQ.of_s (by assumption) : BxQ w s A _).below hb2); clear hb2)
            | (go_at_call 30; refine (HRD.out _ (BxQ.old (BxQ.of_s (by assumption) : BxQ w s A _))).mono ?_; rintro e2 w2 ⟨rfl, hb2⟩; have HF := Lib.hid ((BxQ.of_s (by assumption) : BxQ w s A _).below hb2); clear hb2)))
      | fail
      all_goals
        go_wp2
        go_ret
        first | exact ⟨rfl, HF.out.old⟩ | exact ⟨rfl, HF.out.drew.old⟩ | exact ⟨rfl, below_drewN HF.out.old _⟩
end Go.Proofs.Ytllfieefmnjplaa.Attr
