/-
  The walk of AttrTurns.
-/
import Derived.Test.YtllfieefmnjplaaAttrTextsWalk
import Derived.Test.YtllfieefmnjplaaOpenH
namespace Go.Proofs.Ytllfieefmnjplaa.Attr
open Go.RowKit Base
set_option linter.unusedVariables false

theorem turns_fin : ∀ a : Fin 256, modi (modify (a.val : Int) true) = true ∧ modi (modify (a.val : Int) false) = false ∧ bits .xor .u8 (modify (a.val : Int) true) (modify (a.val : Int) false) = 1 ∧ prot (modify (a.val : Int) true) = prot (a.val : Int) ∧ nume (modify (a.val : Int) false) = nume (a.val : Int) ∧ modify (a.val : Int) true / 4 % 4 = modify (a.val : Int) false / 4 % 4 ∧ Dig.dig ((a.val : Int) % 64) % 64 = (a.val : Int) % 64 ∧ ¬ modify (a.val : Int) true % 64 = modify (a.val : Int) false % 64 ∧ (0 ≤ modify (a.val : Int) true ∧ modify (a.val : Int) true ≤ 255) ∧ (0 ≤ modify (a.val : Int) false ∧ modify (a.val : Int) false ≤ 255) ∧ (0 ≤ Dig.dig ((a.val : Int) % 64) ∧ Dig.dig ((a.val : Int) % 64) ≤ 255) := by decide +kernel
theorem turns_any (a : Int) (a0 : 0 ≤ a) (a1 : a ≤ 255) : modi (modify a true) = true ∧ modi (modify a false) = false ∧ bits .xor .u8 (modify a true) (modify a false) = 1 ∧ prot (modify a true) = prot a ∧ nume (modify a false) = nume a ∧ modify a true / 4 % 4 = modify a false / 4 % 4 ∧ Dig.dig (a % 64) % 64 = a % 64 ∧ ¬ modify a true % 64 = modify a false % 64 ∧ (0 ≤ modify a true ∧ modify a true ≤ 255) ∧ (0 ≤ modify a false ∧ modify a false ≤ 255) ∧ (0 ≤ Dig.dig (a % 64) ∧ Dig.dig (a % 64) ≤ 255) := by
  have := turns_fin ⟨a.toNat, by omega⟩
  simp only [Int.toNat_of_nonneg a0] at this
  exact this
theorem dress_parts (c : Cl) (L : List (Int × Int)) (q : Nat) : dress (dress c (L.take q)) (L.drop q) = dress c L := by
  unfold dress
  rw [← List.foldl_append, List.take_append_drop]
theorem PairsAt.take {W : World} {a : Option Addr} {n c : Nat} {L : List (Int × Int)} (h : PairsAt W (.slice a n c) L) (q : Nat) (hq : q ≤ n) (c' : Nat) : PairsAt W (.slice a q c') (L.take q) := by
  obtain ⟨a', c1, e, hr⟩ := h
  injection e with e1 e2 e3
  subst e1 e2
  refine ⟨a, c', by rw [List.length_take, Nat.min_eq_left hq], fun hne => ?_⟩
  have hne2 : L ≠ [] := by intro e; rw [e] at hne; simp at hne
  obtain ⟨g, off, rfl, hi⟩ := hr hne2
  refine ⟨g, off, rfl, fun i hl => ?_⟩
  rw [List.length_take] at hl
  rw [List.getElem?_take_of_lt (by omega)]
  exact hi i (by omega)
theorem PairsAt.drop {W : World} {g off n c : Nat} {L : List (Int × Int)} (h : PairsAt W (.slice (some ⟨g, off, none⟩) n c) L) (q : Nat) (c' : Nat) : PairsAt W (.slice (some ⟨g, off + q * 2, none⟩) (n - q) c') (L.drop q) := by
  obtain ⟨a', c1, e, hr⟩ := h
  injection e with e1 e2 e3
  subst e1 e2
  refine ⟨_, c', by rw [List.length_drop], fun hne => ?_⟩
  have hne2 : L ≠ [] := by intro e; rw [e] at hne; simp at hne
  obtain ⟨g', off', e, hi⟩ := hr hne2
  injection e with e
  injection e with e1 e2 e3
  subst e1 e2
  refine ⟨g, _, rfl, fun i hl => ?_⟩
  rw [List.length_drop] at hl
  rw [List.getElem?_drop, show off + q * 2 + i * 2 = off + (q + i) * 2 by omega]
  exact hi (q + i) (by omega)
theorem PairsAt.zero (W : World) (a : Option Addr) (c : Nat) : PairsAt W (.slice a 0 c) [] := ⟨a, c, rfl, fun h => absurd rfl h⟩
/-- Two cells in boxes. -/
structure B2Q (w : World) (s p : Nat) (A B : Array Value) (W : World) : Prop where
  one : BxQ w s A W
  two : BxQ w p B W
section
variable {w W W' : World} {s p : Nat} {A B : Array Value} {a d e a' d' e' : Int} {b c b' c' : Bool}
theorem B2Q.below (h : B2Q w s p A B W) (t : Below W.heap.size W W') : B2Q w s p A B W' := ⟨h.one.below t, h.two.below t⟩
theorem B2Q.drew (h : B2Q w s p A B W) : B2Q w s p A B W.drew := ⟨h.one.drew, h.two.drew⟩
theorem B2Q.s10 (hA : A = clA ⟨a, b, c, d, e⟩) (hB : B = clA ⟨a', b', c', d', e'⟩) (h : B2Q w s p A B W) :
    W.cell? ⟨s, 0, none⟩ = some (.int .u8 a) ∧ W.cell? ⟨s, 1, none⟩ = some (.bool b) ∧ W.cell? ⟨s, 2, none⟩ = some (.bool c) ∧ W.cell? ⟨s, 3, none⟩ = some (.int .u8 d) ∧ W.cell? ⟨s, 4, none⟩ = some (.int .u8 e) ∧
    W.cell? ⟨p, 0, none⟩ = some (.int .u8 a') ∧ W.cell? ⟨p, 1, none⟩ = some (.bool b') ∧ W.cell? ⟨p, 2, none⟩ = some (.bool c') ∧ W.cell? ⟨p, 3, none⟩ = some (.int .u8 d') ∧ W.cell? ⟨p, 4, none⟩ = some (.int .u8 e') ∧ B2Q w s p A B W := by
  obtain ⟨c0, c1, c2, c3, c4, _⟩ := h.one.s5 hA
  obtain ⟨d0, d1, d2, d3, d4, _⟩ := h.two.s5 hB
  exact ⟨c0, c1, c2, c3, c4, d0, d1, d2, d3, d4, h⟩
theorem B2Q.of_s {q0 q1 q2 q3 q4 q5 q6 q7 q8 q9 : Prop} (h : q0 ∧ q1 ∧ q2 ∧ q3 ∧ q4 ∧ q5 ∧ q6 ∧ q7 ∧ q8 ∧ q9 ∧ B2Q w s p A B W) : B2Q w s p A B W := h.2.2.2.2.2.2.2.2.2.2
end
set_option maxRecDepth 100000 in
set_option maxHeartbeats 8000000 in
theorem attrTurns_law {w : World} (a : Int) (ha : (Lit.int .u8 a).wf = true) (c : Cl) (hc : Open.ClOk c) (v : Value) (L : List (Int × Int)) (hL : Open.PairsCut w v L ∧ L.length ≤ maxLen ∧ ∀ p ∈ L, Open.Byte2 p) (x : Int) (hx : (Lit.int .i64 x).wf = true) :
    Calls Try.prog 6 #[.int .u8 a, .agg (clA c), v, .int .i64 x] w fun e W' => e = .returned (.bool true) ∧ Below w.heap.size w W' := by
  have hzc := (zero_of_info info_cl).1
  unfold zcl at hzc
  obtain ⟨a0, a1⟩ := u8_bd ha
  obtain ⟨hcut, hl, hby⟩ := hL
  have HR := Lib.hid hcut.1
  have HBY := Lib.hid hby
  obtain ⟨_, av, cv, rfl, hcv, hcn⟩ := hcut
  obtain ⟨n, hn⟩ : ∃ n, n = L.length := ⟨_, rfl⟩
  have HN := Lib.hid hn
  unfold maxLen at hl
  rw [← hn] at hl HR hcv ⊢
  obtain ⟨s, hs⟩ : ∃ s, s = w.heap.size := ⟨_, rfl⟩
  have HS := Lib.hid hs.symm
  obtain ⟨A, hA⟩ : ∃ A, A = clA c := ⟨_, rfl⟩
  have hq0 : BxQ w s A (w.alloc (.cells A 33)) := ⟨below_alloc _ _, by rw [hs]; exact heap_alloc_new w _⟩
  obtain ⟨W0, hW0⟩ : ∃ W0, W0 = w.alloc (.cells A 33) := ⟨_, rfl⟩
  rw [← hW0] at hq0
  rw [hA] at hW0
  obtain ⟨t1, t2, t3, t4, t5, t6, t7, t8, ⟨m0, m1⟩, ⟨u0, u1⟩, ⟨g0, g1⟩⟩ := turns_any a a0 a1
  have HMD : Hid (∀ (on : Bool) (w : World), Calls Try.prog 20 #[.int .u8 a, .bool on] w fun e w' => e = .returned (.int .u8 (modify a on)) ∧ w = w') := Lib.hid fun on w => modify_any a w a0 a1 on
  have HMO : Hid (∀ (y : Int) (w : World), 0 ≤ y ∧ y ≤ 255 → Calls Try.prog 19 #[.int .u8 y] w fun e w' => e = .returned (.bool (modi y)) ∧ w = w') := Lib.hid fun y w h => modified_any y w h.1 h.2
  have HPR : Hid (∀ (y : Int) (w : World), 0 ≤ y ∧ y ≤ 255 → Calls Try.prog 14 #[.int .u8 y] w fun e w' => e = .returned (.bool (prot y)) ∧ w = w') := Lib.hid fun y w h => protected_any y w h.1 h.2
  have HNU : Hid (∀ (y : Int) (w : World), 0 ≤ y ∧ y ≤ 255 → Calls Try.prog 15 #[.int .u8 y] w fun e w' => e = .returned (.bool (nume y)) ∧ w = w') := Lib.hid fun y w h => numeric_any y w h.1 h.2
  have HSH : Hid (∀ (y : Int) (w : World), 0 ≤ y ∧ y ≤ 255 → Calls Try.prog 17 #[.int .u8 y] w fun e w' => e = .returned (.int .i64 (y / 4 % 4)) ∧ w = w') := Lib.hid fun y w h => shown_any y w h.1 h.2
  have HBT : Hid (∀ (w : World), Calls Try.prog 22 #[.int .u8 a] w fun e w' => e = .returned (.int .u8 (Dig.dig (a % 64))) ∧ w = w') := Lib.hid fun w => byte_any a w a0 a1
  have HSM : Hid (∀ (y z : Int) (w : World), (0 ≤ y ∧ y ≤ 255) ∧ 0 ≤ z ∧ z ≤ 255 → Calls Try.prog 24 #[.int .u8 y, .int .u8 z] w fun e w' => e = .returned (.bool (decide (y % 64 = z % 64))) ∧ w = w') := Lib.hid fun y z w h => asame_any y w h.1.1 h.1.2 z h.2.1 h.2.2
  obtain ⟨M, hM⟩ : ∃ M, M = modify a true := ⟨_, rfl⟩
  obtain ⟨U, hU⟩ : ∃ U, U = modify a false := ⟨_, rfl⟩
  obtain ⟨G, hG⟩ : ∃ G, G = Dig.dig (a % 64) := ⟨_, rfl⟩
  rw [← hM] at t1 t3 t4 t6 t8 m0 m1
  rw [← hU] at t2 t3 t5 t6 t8 u0 u1
  rw [← hG] at t7 g0 g1 HBT
  have HM1 : Hid (∀ (w : World), Calls Try.prog 20 #[.int .u8 a, .bool true] w fun e w' => e = .returned (.int .u8 M) ∧ w = w') := Lib.hid fun w => by rw [hM]; exact HMD.out true w
  have HM2 : Hid (∀ (w : World), Calls Try.prog 20 #[.int .u8 a, .bool false] w fun e w' => e = .returned (.int .u8 U) ∧ w = w') := Lib.hid fun w => by rw [hU]; exact HMD.out false w
  have HS1 : Hid (∀ (w : World), Calls Try.prog 24 #[.int .u8 G, .int .u8 a] w fun e w' => e = .returned (.bool true) ∧ w = w') := Lib.hid fun w => by
    have := HSM.out G a w ⟨⟨g0, g1⟩, a0, a1⟩
    rw [decide_eq_true t7] at this; exact this
  have HS2 : Hid (∀ (w : World), Calls Try.prog 24 #[.int .u8 M, .int .u8 U] w fun e w' => e = .returned (.bool false) ∧ w = w') := Lib.hid fun w => by
    have := HSM.out M U w ⟨⟨m0, m1⟩, u0, u1⟩
    rw [decide_eq_false t8] at this; exact this
  generalize modi = MO at t1 t2 HMO
  generalize prot = PR at t4 HPR
  generalize nume = NU at t5 HNU
  obtain ⟨q, hq⟩ : ∃ q : Nat, x % 1024 % ((n : Int) + 1) = (q : Int) := ⟨(x % 1024 % ((n : Int) + 1)).toNat, (Int.toNat_of_nonneg (Int.emod_nonneg _ (by omega))).symm⟩
  have HTM : Hid ((bits .and .i64 x 1023).tmod ((n : Int) + 1) = (q : Int)) := Lib.hid (by
    obtain ⟨k, hand, _, hk⟩ := Open.mask_nat x 1023 10 1024 (by omega) (by decide) (by decide)
    have hand : bits .and .i64 x 1023 = (k : Int) := hand
    have hk : (k : Int) = x % 1024 := hk
    rw [hand, Int.tmod_eq_emod_of_nonneg (by omega), hk]
    exact hq)
  have hqn : q ≤ n := by have := Int.emod_lt_of_pos (x % 1024) (show (0 : Int) < (n : Int) + 1 by omega); omega
  have HDR : Hid (∀ (y : Cl) (u : Value) (X : List (Int × Int)) (W : World), PairsAt W u X → X.length ≤ L.length → (∀ p ∈ X, p ∈ L) → Calls Try.prog 29 #[.agg (clA y), u] W fun e w' => e = .returned (.agg (clA (dress y X))) ∧ Below W.heap.size W w') := Lib.hid fun y u X W hp hl hm =>
    dress_any y _ X W hp (by unfold maxLen; rw [← HN.out] at hl; omega) (fun p h => HBY.out p (hm p h))
  have hd1 : ∀ W : World, Below w.heap.size w W → Calls Try.prog 29 #[.agg (clA c), .slice av n cv] W fun e w' => e = .returned (.agg (clA (dress c L))) ∧ Below W.heap.size W w' := fun W hb => HDR.out c _ L W (HR.out.below hb) (Nat.le_refl _) (fun _ h => h)
  have hd2 : ∀ (W : World) (u : Value), PairsAt W u (L.take q) → Calls Try.prog 29 #[.agg (clA c), u] W fun e w' => e = .returned (.agg (clA (dress c (L.take q)))) ∧ Below W.heap.size W w' := fun W u hp => HDR.out c u _ W hp (by rw [List.length_take]; omega) (fun _ h => List.mem_of_mem_take h)
  have hd3 : ∀ (W : World) (u : Value), PairsAt W u (L.drop q) → Calls Try.prog 29 #[.agg (clA (dress c (L.take q))), u] W fun e w' => e = .returned (.agg (clA (dress c L))) ∧ Below W.heap.size W w' := fun W u hp => by
    have := HDR.out (dress c (L.take q)) u _ W hp (by rw [List.length_drop]; omega) (fun _ h => List.mem_of_mem_drop h)
    rw [dress_parts] at this
    exact this
  have hfst : (dress c L).st = c.st ∧ (dress c L).ge = c.ge := by rw [dress_last]; exact ⟨rfl, rfl⟩
  generalize dress c (L.take q) = E at hd2 hd3
  generalize dress c L = F at hd1 hd3 hfst
  obtain ⟨fb, fg, fs, fl, fc⟩ := F
  obtain ⟨eb, eg, es, el, ec⟩ := E
  obtain ⟨cb, cg, cs, cl, cc⟩ := c
  simp only at hfst
  obtain ⟨rfl, rfl⟩ := hfst
  unfold clA at hd1 hd2 hd3 hW0
  have HD1 := Lib.hid hd1
  have HD2 := Lib.hid hd2
  have HD3 := Lib.hid hd3
  have HW0 := Lib.hid hW0.symm
  have HQ0 := Lib.hid hq0
  have HA := Lib.hid hA
  have HT6 : Hid (M / 4 % 4 = U / 4 % 4) := Lib.hid t6
  clear hn hs hby hW0 hq0 ha hA hc hd1 hd2 hd3 HDR HSM HMD hM hU hG hx t7 t8 t6
  have t6 : M / 4 % 4 = U / 4 % 4 := HT6.out
  unfold clA
  go_enter Try.func6, Try.ntmps6
  go_upto_region 1 with fail
  rw [HW0.out, HS.out]
  go_wp2_with fail
  refine (attr_alive W0).mono ?_
  rintro e W1 ⟨rfl, hb1⟩
  have HQ1 := Lib.hid (HQ0.out.below hb1)
  clear hb1
  by_cases hbig : 100 < n
  · have hbig' : (100 : Int) < n := by omega
    go_wp2_with fail
    go_ret
    exact ⟨rfl, HQ1.out.old⟩
  have hsm : (n : Int) ≤ 100 := by omega
  clear hbig
  obtain ⟨c0, c1, c2, c3, c4, _⟩ := HQ1.out.s5 HA.out
  have hqi : (q : Int) ≤ n := by omega
  have hq0i : (0 : Int) ≤ q := Int.natCast_nonneg _
  have hci : (n : Int) ≤ cv := by omega
  go_wp2_with (first | (go_at_call 20; first | ((with_reducible refine (HM1.out _).mono ?_); rintro e w' ⟨rfl, rfl⟩) | ((with_reducible refine (HM2.out _).mono ?_); rintro e w' ⟨rfl, rfl⟩)) | (go_at_call 19; refine (HMO.out _ _ (by omega)).mono ?_; rintro e w' ⟨rfl, rfl⟩) | (go_at_call 14; refine (HPR.out _ _ (by omega)).mono ?_; rintro e w' ⟨rfl, rfl⟩) | (go_at_call 15; refine (HNU.out _ _ (by omega)).mono ?_; rintro e w' ⟨rfl, rfl⟩) | (go_at_call 17; refine (HSH.out _ _ (by omega)).mono ?_; rintro e w' ⟨rfl, rfl⟩) | (go_at_call 22; refine (HBT.out _).mono ?_; rintro e w' ⟨rfl, rfl⟩) | (go_at_call 24; first | ((with_reducible refine (HS1.out _).mono ?_); rintro e w' ⟨rfl, rfl⟩) | ((with_reducible refine (HS2.out _).mono ?_); rintro e w' ⟨rfl, rfl⟩)))
  refine (HD1.out W1 HQ1.out.old).mono ?_
  rintro e W2 ⟨rfl, hb2⟩
  have hq2 := HQ1.out.below hb2
  have hp3 := heap_alloc_new W2 (.cells (clA ⟨fb, fg, fs, fl, fc⟩) 33)
  have hq3 := hq2.below (below_alloc W2 (.cells (clA ⟨fb, fg, fs, fl, fc⟩) 33))
  obtain ⟨W3, hW3⟩ : ∃ W3, W3 = W2.alloc (.cells (clA ⟨fb, fg, fs, fl, fc⟩) 33) := ⟨_, rfl⟩
  obtain ⟨p, hp⟩ : ∃ p, p = W2.heap.size := ⟨_, rfl⟩
  obtain ⟨B, hB⟩ : ∃ B, B = clA ⟨fb, fg, fs, fl, fc⟩ := ⟨_, rfl⟩
  rw [← hW3] at hp3 hq3
  rw [← hp, ← hB] at hp3
  have hqp : B2Q w s p A B W3 := ⟨hq3, hq3.old, hp3⟩
  unfold clA at hW3
  have HQ := Lib.hid hqp
  have HW3 := Lib.hid hW3.symm
  have HP := Lib.hid hp.symm
  have HB := Lib.hid hB
  clear hb2 hq2 hp3 hq3 hW3 hp hB hqp c0 c1 c2 c3 c4
  go_upto_region 10 with fail
  rw [HW3.out, HP.out, HTM.out]
  clear hq
  obtain ⟨c0, c1, c2, c3, c4, d0, d1, d2, d3, d4, _⟩ := HQ.out.s10 HA.out HB.out
  have HRW : Hid (∀ W : World, B2Q w s p A B W → PairsAt W (.slice av n cv) L) := Lib.hid fun W h => HR.out.below h.one.old
  have hcc : cv = 0 ∨ 0 < cv := by omega
  by_cases hn0 : n = 0
  · subst hn0
    obtain rfl : q = 0 := by omega
    have HN0 : Hid (∀ (W : World) (a : Option Addr) (c : Nat), PairsAt W (.slice a 0 c) (L.take 0) ∧ PairsAt W (.slice a 0 c) (L.drop 0)) := Lib.hid fun W a c => by
      have : L = [] := List.eq_nil_of_length_eq_zero HN.out.symm
      subst this
      exact ⟨PairsAt.zero W a c, PairsAt.zero W a c⟩
    clear hcn hcv hqi hq0i hqn
    rcases hcc with rfl | hcc
    · clear hci
      first
      | (go_region_held3 (fun W => W.cell? ⟨s, 0, none⟩ = some (.int .u8 cb) ∧ W.cell? ⟨s, 1, none⟩ = some (.bool fg) ∧ W.cell? ⟨s, 2, none⟩ = some (.bool fs) ∧ W.cell? ⟨s, 3, none⟩ = some (.int .u8 cl) ∧ W.cell? ⟨s, 4, none⟩ = some (.int .u8 cc) ∧
            W.cell? ⟨p, 0, none⟩ = some (.int .u8 fb) ∧ W.cell? ⟨p, 1, none⟩ = some (.bool fg) ∧ W.cell? ⟨p, 2, none⟩ = some (.bool fs) ∧ W.cell? ⟨p, 3, none⟩ = some (.int .u8 fl) ∧ W.cell? ⟨p, 4, none⟩ = some (.int .u8 fc) ∧ B2Q w s p A B W)
          (with_reducible (first | assumption | exact B2Q.s10 HA.out HB.out HQ.out | exact B2Q.s10 HA.out HB.out HQ.out.drew | exact B2Q.s10 HA.out HB.out HF.out | exact B2Q.s10 HA.out HB.out HF.out.drew | exact B2Q.s10 HA.out HB.out (B2Q.drew (B2Q.of_s (by assumption)))))
          (first
            | (go_at_call 29; (with_reducible refine (HD2.out _ _ (HN0.out _ _ _).1).mono ?_); rintro e2 w2 ⟨rfl, hb2⟩; have HF := Lib.hid ((B2Q.of_s (by assumption) : B2Q w s p A B _).below hb2); clear hb2)
            | (go_at_call 29; (with_reducible refine (HD3.out _ _ (HN0.out _ _ _).2).mono ?_); rintro e2 w2 ⟨rfl, hb2⟩; have HF := Lib.hid ((B2Q.of_s (by assumption) : B2Q w s p A B _).below hb2); clear hb2)))
      | fail
      all_goals
        go_wp2
        go_ret
        first | exact ⟨rfl, HF.out.one.old⟩ | exact ⟨rfl, HF.out.drew.one.old⟩ | exact ⟨rfl, below_drewN HF.out.one.old _⟩
    · have hcc2 : ¬ cv = 0 := by omega
      have hcc3 : ¬ 0 = cv := by omega
      first
      | (go_region_held3 (fun W => W.cell? ⟨s, 0, none⟩ = some (.int .u8 cb) ∧ W.cell? ⟨s, 1, none⟩ = some (.bool fg) ∧ W.cell? ⟨s, 2, none⟩ = some (.bool fs) ∧ W.cell? ⟨s, 3, none⟩ = some (.int .u8 cl) ∧ W.cell? ⟨s, 4, none⟩ = some (.int .u8 cc) ∧
            W.cell? ⟨p, 0, none⟩ = some (.int .u8 fb) ∧ W.cell? ⟨p, 1, none⟩ = some (.bool fg) ∧ W.cell? ⟨p, 2, none⟩ = some (.bool fs) ∧ W.cell? ⟨p, 3, none⟩ = some (.int .u8 fl) ∧ W.cell? ⟨p, 4, none⟩ = some (.int .u8 fc) ∧ B2Q w s p A B W)
          (with_reducible (first | assumption | exact B2Q.s10 HA.out HB.out HQ.out | exact B2Q.s10 HA.out HB.out HQ.out.drew | exact B2Q.s10 HA.out HB.out HF.out | exact B2Q.s10 HA.out HB.out HF.out.drew | exact B2Q.s10 HA.out HB.out (B2Q.drew (B2Q.of_s (by assumption)))))
          (first
            | (go_at_call 29; (with_reducible refine (HD2.out _ _ (HN0.out _ _ _).1).mono ?_); rintro e2 w2 ⟨rfl, hb2⟩; have HF := Lib.hid ((B2Q.of_s (by assumption) : B2Q w s p A B _).below hb2); clear hb2)
            | (go_at_call 29; (with_reducible refine (HD3.out _ _ (HN0.out _ _ _).2).mono ?_); rintro e2 w2 ⟨rfl, hb2⟩; have HF := Lib.hid ((B2Q.of_s (by assumption) : B2Q w s p A B _).below hb2); clear hb2)))
      | fail
      all_goals
        go_wp2
        go_ret
        first | exact ⟨rfl, HF.out.one.old⟩ | exact ⟨rfl, HF.out.drew.one.old⟩ | exact ⟨rfl, below_drewN HF.out.one.old _⟩
  · have hne : L ≠ [] := by intro e; have := HN.out; rw [e] at this; exact hn0 this
    obtain ⟨a', c', e', hc⟩ := HR.out
    injection e' with e1 e2 e3
    subst e1 e3
    obtain ⟨g, off, rfl, _⟩ := hc hne
    clear hcc hcn hc e2
    have HTK : Hid (∀ (W : World) (c' : Nat), B2Q w s p A B W → PairsAt W (.slice (some ⟨g, off, none⟩) q c') (L.take q)) := Lib.hid fun W c' h => PairsAt.take (HRW.out W h) q hqn c'
    have HDK : Hid (∀ (W : World) (c' : Nat), B2Q w s p A B W → PairsAt W (.slice (some ⟨g, off + q * 2, none⟩) (n - q) c') (L.drop q)) := Lib.hid fun W c' h => PairsAt.drop (HRW.out W h) q c'
    have HDZ : q = n → Hid (∀ (W : World) (a : Option Addr) (c' : Nat), PairsAt W (.slice a 0 c') (L.drop q)) := fun h => Lib.hid fun W a c' => by
      rw [List.drop_eq_nil_of_le (by rw [← HN.out]; omega)]
      exact PairsAt.zero W a c'
    have hcv0 : ¬ cv = 0 := by omega
    have hcv1 : ¬ 0 = cv := by omega
    by_cases hqc : q = cv
    · obtain rfl : n = q := by omega
      have HDZ1 := HDZ rfl
      subst hqc
      clear HDZ hcv hqi hqn
      first
      | (go_region_held3 (fun W => W.cell? ⟨s, 0, none⟩ = some (.int .u8 cb) ∧ W.cell? ⟨s, 1, none⟩ = some (.bool fg) ∧ W.cell? ⟨s, 2, none⟩ = some (.bool fs) ∧ W.cell? ⟨s, 3, none⟩ = some (.int .u8 cl) ∧ W.cell? ⟨s, 4, none⟩ = some (.int .u8 cc) ∧
            W.cell? ⟨p, 0, none⟩ = some (.int .u8 fb) ∧ W.cell? ⟨p, 1, none⟩ = some (.bool fg) ∧ W.cell? ⟨p, 2, none⟩ = some (.bool fs) ∧ W.cell? ⟨p, 3, none⟩ = some (.int .u8 fl) ∧ W.cell? ⟨p, 4, none⟩ = some (.int .u8 fc) ∧ B2Q w s p A B W)
          (with_reducible (first | assumption | exact B2Q.s10 HA.out HB.out HQ.out | exact B2Q.s10 HA.out HB.out HQ.out.drew | exact B2Q.s10 HA.out HB.out HF.out | exact B2Q.s10 HA.out HB.out HF.out.drew | exact B2Q.s10 HA.out HB.out (B2Q.drew (B2Q.of_s (by assumption)))))
          (first
            | (go_at_call 29; (with_reducible refine (HD2.out _ _ (HTK.out _ _ (B2Q.of_s (by assumption)))).mono ?_); rintro e2 w2 ⟨rfl, hb2⟩; have HF := Lib.hid ((B2Q.of_s (by assumption) : B2Q w s p A B _).below hb2); clear hb2)
            | (go_at_call 29; (with_reducible refine (HD3.out _ _ (HDZ1.out _ _ _)).mono ?_); rintro e2 w2 ⟨rfl, hb2⟩; have HF := Lib.hid ((B2Q.of_s (by assumption) : B2Q w s p A B _).below hb2); clear hb2)))
      | fail
      all_goals
        go_wp2
        go_ret
        first | exact ⟨rfl, HF.out.one.old⟩ | exact ⟨rfl, HF.out.drew.one.old⟩ | exact ⟨rfl, below_drewN HF.out.one.old _⟩
    · have hqc2 : ¬ cv = q := by omega
      have hqcv : (q : Int) ≤ cv := by omega
      clear HDZ
      first
      | (go_region_held3 (fun W => W.cell? ⟨s, 0, none⟩ = some (.int .u8 cb) ∧ W.cell? ⟨s, 1, none⟩ = some (.bool fg) ∧ W.cell? ⟨s, 2, none⟩ = some (.bool fs) ∧ W.cell? ⟨s, 3, none⟩ = some (.int .u8 cl) ∧ W.cell? ⟨s, 4, none⟩ = some (.int .u8 cc) ∧
            W.cell? ⟨p, 0, none⟩ = some (.int .u8 fb) ∧ W.cell? ⟨p, 1, none⟩ = some (.bool fg) ∧ W.cell? ⟨p, 2, none⟩ = some (.bool fs) ∧ W.cell? ⟨p, 3, none⟩ = some (.int .u8 fl) ∧ W.cell? ⟨p, 4, none⟩ = some (.int .u8 fc) ∧ B2Q w s p A B W)
          (with_reducible (first | assumption | exact B2Q.s10 HA.out HB.out HQ.out | exact B2Q.s10 HA.out HB.out HQ.out.drew | exact B2Q.s10 HA.out HB.out HF.out | exact B2Q.s10 HA.out HB.out HF.out.drew | exact B2Q.s10 HA.out HB.out (B2Q.drew (B2Q.of_s (by assumption)))))
          (first
            | (go_at_call 29; (with_reducible refine (HD2.out _ _ (HTK.out _ _ (B2Q.of_s (by assumption)))).mono ?_); rintro e2 w2 ⟨rfl, hb2⟩; have HF := Lib.hid ((B2Q.of_s (by assumption) : B2Q w s p A B _).below hb2); clear hb2)
            | (go_at_call 29; (with_reducible refine (HD3.out _ _ (HDK.out _ _ (B2Q.of_s (by assumption)))).mono ?_); rintro e2 w2 ⟨rfl, hb2⟩; have HF := Lib.hid ((B2Q.of_s (by assumption) : B2Q w s p A B _).below hb2); clear hb2)))
      | fail
      all_goals
        go_wp2
        go_ret
        first | exact ⟨rfl, HF.out.one.old⟩ | exact ⟨rfl, HF.out.drew.one.old⟩ | exact ⟨rfl, below_drewN HF.out.one.old _⟩
end Go.Proofs.Ytllfieefmnjplaa.Attr
