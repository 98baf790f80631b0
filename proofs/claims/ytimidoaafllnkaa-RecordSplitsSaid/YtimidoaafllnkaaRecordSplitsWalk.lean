/-
  The walk of RecordSplits.
-/
import Derived.Test.YtimidoaafllnkaaSubE
import Derived.Test.YtimidoaafllnkaaOpenF
import Derived.Test.YtimidoaafllnkaaOpenH
import Derived.Test.YtimidoaafllnkaaOpenR
namespace Go.Proofs.Ytimidoaafllnkaa.Rec
open Go.RowKit Base Iac
set_option linter.unusedVariables false
set_option linter.unusedSimpArgs false

theorem rows8_mine {s : Nat} {w : World} {v : Value} {R : List RP} (h : RowsOwn s w v R) : Rows8 w v (R.map (·.1)) := SOwn.rows ⟨h.row, h.own⟩
def spX (L : List Int) : List (List Int) := if splitOk L = true then (runM (feedD dec0 L).2).rs else []
def spN (L : List Int) : Nat := if splitOk L = true then (runM (feedD dec0 L).2).n else 0
def spE (L : List Int) : Int := if splitOk L = true then 0 else 20
theorem rows8_nil (w : World) : Rows8 w (.slice none 0 0) [] := ⟨none, 0, rfl, fun h => absurd rfl h⟩
theorem split_uni {L : List Int} {w w' : World} {e : Ending} (h : SplitP L w e w') : Below w.heap.size w w' ∧ ∃ u, e = .returned (.tuple #[u, .int .i64 (spN L : Nat), .int .i64 (spE L)]) ∧ Rows8 w' u (spX L) := by
  obtain ⟨hb, h⟩ := h
  refine And.intro hb ?_
  unfold spX spN spE
  by_cases hs : splitOk L = true
  · rw [if_pos hs] at h
    obtain ⟨u, R, rfl, hR, hm⟩ := h
    rw [if_pos hs, if_pos hs, if_pos hs, ← hm]
    exact ⟨u, rfl, rows8_mine hR⟩
  · rw [if_neg hs] at h
    rw [if_neg hs, if_neg hs, if_neg hs]
    exact ⟨_, h, rows8_nil _⟩
theorem rsplit_uni {L : List Int} {w w' : World} {e : Ending} (h : RSplitP L w e w') : Below w.heap.size w w' ∧ ∃ u, e = .returned (.tuple #[u, .int .i64 (spN L : Nat), .int .i64 (spE L)]) ∧ Rows8 w' u (spX L) ∧ (spX L).length ≤ L.length := by
  obtain ⟨hb, h⟩ := h
  refine And.intro hb ?_
  unfold spX spN spE
  by_cases hs : splitOk L = true
  · rw [if_pos hs] at h
    obtain ⟨u, R, rfl, hR, hm, hl⟩ := h
    rw [if_pos hs, if_pos hs, if_pos hs, ← hm]
    exact ⟨u, rfl, hR.rows, by rw [List.length_map]; exact hl⟩
  · rw [if_neg hs] at h
    rw [if_neg hs, if_neg hs, if_neg hs]
    exact ⟨_, h, rows8_nil _, by simp⟩
theorem st10_small {S : List (List Int × Bool) × List Int} (h : ∀ p ∈ S.1, p.1.length ≤ 8192) (e : Ev) : ∀ p ∈ (st10 S e).1, p.1.length ≤ 8192 := by
  intro p hp
  unfold st10 at hp
  split at hp
  · exact h p hp
  · split at hp
    · rcases List.mem_append.1 hp with hp | hp
      · exact h p hp
      · rw [List.mem_singleton.1 hp]
        split
        · simp
        · show S.2.length ≤ 8192
          omega
    · exact h p hp
theorem run10_small (J : List Ev) : ∀ p ∈ (run10 J).1, p.1.length ≤ 8192 := by
  have : ∀ (J : List Ev) (S : List (List Int × Bool) × List Int), (∀ p ∈ S.1, p.1.length ≤ 8192) → ∀ p ∈ (J.foldl st10 S).1, p.1.length ≤ 8192 := by
    intro J
    induction J with
    | nil => intro S h; exact h
    | cons e J ih => intro S h; exact ih _ (st10_small h e)
  exact this J _ (by simp)
theorem shorts_small {T : List (List Int × Bool)} (h : ∀ p ∈ T, p.1.length ≤ 8192) : ∀ r ∈ shorts T, r.length ≤ 8192 := by
  intro r hr
  unfold shorts at hr
  obtain ⟨p, hp, e⟩ := List.mem_filterMap.1 hr
  split at e
  · cases e
  · injection e with e
    rw [← e]; exact h p hp
theorem spX_small (L : List Int) : ∀ r ∈ spX L, r.length ≤ 1000000 := by
  intro r hr
  unfold spX at hr
  split at hr
  · rw [run10_M] at hr
    have := shorts_small (run10_small _) r hr
    omega
  · cases hr
theorem shorts_at {T : List (List Int × Bool)} {k : Nat} {L : List Int} (h : T[k]? = some (L, false)) : (shorts T)[(shorts (T.take k)).length]? = some L := by
  have hlt := (List.getElem?_eq_some_iff.1 h).1
  have e : shorts T = shorts (T.take k) ++ shorts (T.drop k) := by
    unfold shorts
    rw [← List.filterMap_append, List.take_append_drop]
  have e2 : T.drop k = (L, false) :: T.drop (k + 1) := by
    rw [List.drop_eq_getElem_cons hlt]
    rw [(List.getElem?_eq_some_iff.1 h).2]
  rw [e, List.getElem?_append_right (Nat.le_refl _), Nat.sub_self, e2]
  simp [shorts]
theorem longs_le (T : List (List Int × Bool)) (k : Nat) : longs (T.take k) ≤ longs T := by
  unfold longs
  conv => rhs; rw [← List.take_append_drop k T]
  rw [List.countP_append]
  omega
theorem shorts_len (T : List (List Int × Bool)) : (shorts T).length ≤ T.length := List.length_filterMap_le _ _
theorem longs_len (T : List (List Int × Bool)) : longs T ≤ T.length := List.countP_le_length
def SpRel (E : List Ev) (s n : Nat) (w : World) (v i : Value) (wr : World) : Prop :=
  ∃ (k : Nat) (P : List EvP), k ≤ n ∧ i = .int .i64 k ∧ ROwn s wr v P ∧ P.map (·.1) = E.take k ∧ totE (E.take k) ≤ 9000 * k ∧ (∀ e ∈ E.take k, e.bytes.length ≤ 9000) ∧ Below s w wr
def SpRel2 (T : List (List Int × Bool)) (s n : Nat) (w : World) (u r : Value) (Q : List RP10) (c j i : Value) (wr : World) : Prop :=
  ∃ k : Nat, k ≤ n ∧ i = .int .i64 k ∧ c = .int .i64 ((longs T - longs (T.take k) : Nat) : Int) ∧ j = .int .i64 ((shorts (T.take k)).length : Nat) ∧ RecOwn s wr u Q ∧ Rows8 wr r (shorts T) ∧ Below s w wr
set_option maxRecDepth 100000 in
set_option maxHeartbeats 16000000 in
theorem recordSplits_law {w : World} (v : Value) (L : List Int) (hL : CutRow w v L ∧ L.length ≤ maxLen ∧ ∀ n ∈ L, Open.Byte n) (ve : Value) (E : List Ev) (hE : EvsAt w ve E ∧ E.length ≤ maxLen ∧ ∀ p ∈ E, Open.EvOk p) :
    Calls Try.prog 9 #[v, ve] w fun e W' => e = .returned (.bool true) ∧ Below w.heap.size w W' := by
  obtain ⟨i0, hi, hz0, hz1, hz2⟩ := info_parts info_revent
  obtain ⟨hc, hll, hby⟩ := hL
  obtain ⟨hev, hel, _⟩ := hE
  unfold maxLen at hel hll
  have HROW := Lib.hid hc.1
  have HBY : Hid (∀ x ∈ L, x ≤ 255) := Lib.hid fun x hx => by have := hby x hx; unfold Open.Byte at this; omega
  have HEV := Lib.hid hev
  obtain ⟨_, av, cv, rfl, _, _⟩ := hc
  obtain ⟨ae, ce, rfl, hrow⟩ := hev
  have HER := Lib.hid hrow
  obtain ⟨l, hl⟩ : ∃ l, l = L.length := ⟨_, rfl⟩
  obtain ⟨n, hn⟩ : ∃ n, n = E.length := ⟨_, rfl⟩
  rw [← hl] at hll ⊢
  rw [← hn] at hel ⊢
  have HL := Lib.hid hl
  have HN := Lib.hid hn
  rw [← hl] at HROW
  rw [← hn] at HEV
  clear hl hn hby hrow
  by_cases hbig : 3000 < l
  · have hbig' : (3000 : Int) < l := by omega
    go_enter Try.func9, Try.ntmps9
    go_wp2_with fail
    refine (rec_alive w).mono ?_
    rintro e W1 ⟨rfl, b1⟩
    go_wp2_with fail
    go_ret
    exact ⟨rfl, b1⟩
  by_cases hbig2 : 60 < n
  · have hb1 : ¬ (3000 : Int) < l := by omega
    have hb2 : (60 : Int) < n := by omega
    go_enter Try.func9, Try.ntmps9
    go_wp2_with fail
    refine (rec_alive w).mono ?_
    rintro e W1 ⟨rfl, b1⟩
    go_wp2_with fail
    go_ret
    exact ⟨rfl, b1⟩
  have hs1 : ¬ (3000 : Int) < l := by omega
  have hs2 : ¬ (60 : Int) < n := by omega
  have hl3 : l ≤ 3000 := by omega
  have hn6 : n ≤ 60 := by omega
  clear hbig hbig2
  obtain ⟨s, hs⟩ : ∃ s, s = w.heap.size := ⟨_, rfl⟩
  have HS := Lib.hid hs
  rw [← hs]
  clear hs
  go_enter Try.func9, Try.ntmps9
  go_wp2_with fail
  refine (rec_alive w).mono ?_
  rintro e W1 ⟨rfl, b1⟩
  rw [← HS.out] at b1
  have B1 := Lib.hid b1
  clear b1
  go_wp2_with fail
  refine (split_any _ L W1 (HROW.out.below (by rw [← HS.out]; exact B1.out)) (by rw [← HL.out]; omega)).mono ?_
  intro e W2 h2
  obtain ⟨b2, u, rfl, hu⟩ := split_uni h2
  obtain ⟨ua, uc, rfl, hur⟩ := hu
  obtain ⟨X, hX⟩ : ∃ X, X = spX L := ⟨_, rfl⟩
  obtain ⟨xn, hxn⟩ : ∃ x, x = spN L := ⟨_, rfl⟩
  obtain ⟨xe, hxe⟩ : ∃ x, x = spE L := ⟨_, rfl⟩
  have hsm := spX_small L
  rw [← hX] at hur hsm ⊢
  rw [← hxn, ← hxe]
  have hs1' : s ≤ W1.heap.size := by have := B1.out.size; have := HS.out; omega
  have HU : Hid (Rows8 W2 (.slice ua X.length uc) X) := Lib.hid ⟨ua, uc, rfl, hur⟩
  have B2 := Lib.hid (B1.out.trans (b2.mono hs1'))
  have HXX := Lib.hid hX
  have HXN := Lib.hid hxn
  have HXE := Lib.hid hxe
  have HSM := Lib.hid hsm
  clear h2 b2 hur hX hxn hxe hsm
  go_wp2_with fail
  refine (rsplit_any _ L W2 (HROW.out.below (by rw [← HS.out]; exact B2.out)) (by rw [← HL.out]; omega) HBY.out).mono ?_
  intro e W3 h3
  obtain ⟨b3, u', rfl, hu', hxl⟩ := rsplit_uni h3
  rw [← HXX.out] at hu' hxl
  rw [← HXN.out, ← HXE.out]
  obtain ⟨ub, ud, rfl, hur'⟩ := hu'
  have hs2' : s ≤ W2.heap.size := by have := B2.out.size; have := HS.out; omega
  have HU2 : Hid (Rows8 W3 (.slice ub X.length ud) X) := Lib.hid ⟨ub, ud, rfl, hur'⟩
  have HU3 := Lib.hid (HU.out.below b3)
  have B3 := Lib.hid (B2.out.trans (b3.mono hs2'))
  have hxl2 : X.length ≤ 100000 := by have := HL.out; omega
  have HXL := Lib.hid hxl2
  have te : (xe != xe) = false := by simp
  have tn : ((xn : Int) != (xn : Int)) = false := by simp
  obtain ⟨xl, hxl3⟩ : ∃ x, x = X.length := ⟨_, rfl⟩
  rw [← hxl3] at HU2 HU3 ⊢
  clear h3 b3 hur' hxl hxl2 HU hxl3
  go_wp2_with fail
  refine (sameAll_true _ _ X W3 HU3.out HU2.out HXL.out HSM.out).mono ?_
  rintro e W4 ⟨rfl, q4, hw4⟩
  have B4 : Hid (Below s w W4) := Lib.hid (by rw [hw4]; exact below_drewN B3.out q4)
  clear hw4 HU2 HU3 te tn
  have hs4 : s ≤ W4.heap.size := by have := B4.out.size; have := HS.out; omega
  have H0 := Lib.hid (rev0 (s := s) (w := W4) hs4)
  have B5 := Lib.hid (B4.out.trans ((below_alloc W4 (.cells #[] 32)).mono hs4))
  go_wp2_with fail
  go_loopw [11, 60] (fun v i wr => SpRel E s n w v i wr) (fun _ i _ => n - (intOf i).toNat)
  case atStart => exact ⟨0, [], by omega, rfl, ⟨H0.out, by simp⟩, by simp, by simp [totE], by simp, B5.out⟩
  case round =>
    obtain ⟨k, P, hk, rfl, hO, hP, htot, hbd, hold⟩ := hrel
    have hsz : s ≤ wr.heap.size := by have := hold.size; have := HS.out; omega
    obtain ⟨va, vc, rfl⟩ := row_form hO.row
    obtain ⟨m, hm⟩ : ∃ m, m = P.length := ⟨_, rfl⟩
    have hmk : m ≤ 60 := by have h1 : P.length = (E.take k).length := by rw [← hP, List.length_map]
                            rw [hm, h1, List.length_take]; omega
    rw [← hm] at hO ⊢
    by_cases hkn : k < n
    · have hkl : k < E.length := by rw [← HN.out]; exact hkn
      have hki : (k : Int) < (n : Int) := by omega
      have hk0 : (0 : Int) ≤ (k : Int) := Int.natCast_nonneg _
      obtain ⟨g, off, rfl, hgl, hcc⟩ := HER.out (by intro e; rw [e] at hkl; simp at hkl)
      obtain ⟨q, hq⟩ : ∃ q, E[k]? = some q := ⟨_, List.getElem?_eq_getElem hkl⟩
      have htk : E.take (k + 1) = E.take k ++ [q] := by rw [List.take_add_one, hq]; rfl
      obtain ⟨y, d0, d1, d2, d3, hy⟩ := hcc k q hq
      obtain ⟨kd, cd, op, bs⟩ := q
      simp only at d0 d1 d2 hy
      have hgs : g < s := by rw [HS.out]; exact hgl
      have d0 := (hold.cell (p := ⟨g, off + k * 4, none⟩) hgs).trans d0
      have d1 := (hold.cell (p := ⟨g, off + k * 4 + 1, none⟩) hgs).trans d1
      have d2 := (hold.cell (p := ⟨g, off + k * 4 + 2, none⟩) hgs).trans d2
      have d3 := (hold.cell (p := ⟨g, off + k * 4 + 3, none⟩) hgs).trans d3
      have hrb : RB s wr y bs := .inl ((hy.lowK.below (by have := hold; rw [HS.out] at this; exact this)).mono fun b hb => by rw [HS.out]; exact hb)
      obtain ⟨ya, yc, hye⟩ := hrb.slice
      subst hye
      obtain ⟨yl, hyl⟩ : ∃ x, x = bs.length := ⟨_, rfl⟩
      rw [← hyl] at d3 hrb
      have hb1 := below_alloc wr (.cells #[.int .i64 kd, .int .u8 cd, .int .u8 op, .slice ya yl yc] 26)
      have hblk := heap_alloc_new wr (.cells #[.int .i64 kd, .int .u8 cd, .int .u8 op, .slice ya yl yc] 26)
      obtain ⟨W1, hW1⟩ : ∃ W1, W1 = wr.alloc (.cells #[.int .i64 kd, .int .u8 cd, .int .u8 op, .slice ya yl yc] 26) := ⟨_, rfl⟩
      obtain ⟨bx, hbx⟩ : ∃ bx, bx = wr.heap.size := ⟨_, rfl⟩
      rw [← hW1] at hb1 hblk
      rw [← hbx] at hblk
      have HW1 := Lib.hid hW1.symm
      have HBX := Lib.hid hbx.symm
      have HO1 := Lib.hid (hO.below hb1)
      have HRB1 := Lib.hid (hrb.below hb1)
      have BB1 := Lib.hid (hold.trans (hb1.mono hsz))
      have hz1' : s ≤ W1.heap.size := by have := BB1.out.size; have := HS.out; omega
      have HTK := Lib.hid htk
      have HYL := Lib.hid hyl
      have HP := Lib.hid hP
      have HTOT := Lib.hid htot
      have HBD := Lib.hid hbd
      have HM := Lib.hid hm
      obtain ⟨e0, e1, e2, e3⟩ : W1.cell? ⟨bx, 0, none⟩ = some (.int .i64 kd) ∧ W1.cell? ⟨bx, 1, none⟩ = some (.int .u8 cd) ∧ W1.cell? ⟨bx, 2, none⟩ = some (.int .u8 op) ∧ W1.cell? ⟨bx, 3, none⟩ = some (.slice ya yl yc) := ⟨by simp [World.cell?, hblk], by simp [World.cell?, hblk], by simp [World.cell?, hblk], by simp [World.cell?, hblk]⟩
      clear hcc hq hy hrb hyl hb1 hblk hW1 hbx hO hold htk hP htot hbd hm hkl hgl hgs H0 B5
      go_upto_region 13 with fail
      rw [HW1.out, HBX.out]
      by_cases hb9 : 9000 < yl
      · have hb9' : (9000 : Int) < yl := by omega
        go_wp2_with fail
        go_ret
        exact ⟨rfl, BB1.out⟩
      have hb9' : ¬ (9000 : Int) < yl := by omega
      go_wp2_with fail
      refine (ras_any kd cd op ya yl yc W1).mono ?_
      rintro e W2 ⟨rfl, hb2⟩
      have HO2 := Lib.hid (HO1.out.below hb2)
      have HRB2 := Lib.hid (HRB1.out.below hb2)
      have BB2 := Lib.hid (BB1.out.trans (hb2.mono hz1'))
      have hz2' : s ≤ W2.heap.size := by have := BB2.out.size; have := HS.out; omega
      have HRAW2 := Lib.hid HO2.out.row
      rw [← HM.out] at HRAW2
      clear hb2 e0 e1 e2 e3
      go_wp2_with (at_builtin; refine wpList_append_own _ rfl _ _ 33 rfl s 32 i0 (.agg #[.int .i64 0, .int .u8 0, .int .u8 0, .slice none 0 0]) 4 40 Try.underlying33 hi hz0 hz1 hz2 rfl (by decide) _ _ _ rfl (HRAW2.out.alloc _) ⟨W2.heap.size, 0, none⟩ 1 1 [.int .i64 kd, .int .u8 cd, .int .u8 op, .slice ya yl yc] rfl rfl (rev_cl W2 kd cd op (.slice ya yl yc)) (by simp [Value.oneCell']) (by unfold maxLen; omega) (by omega) (by rw [World.size_alloc]; omega) ?_; intro v5 w5 hown5 hgrow5 _; have HMR := Lib.hid (rmore (e := ⟨kd, cd, op, bs⟩) HO2.out HM.out hz2' HRB2.out hown5 hgrow5); clear hown5 hgrow5)
      go_roundw
      case rel => exact ⟨k + 1, P ++ [(⟨kd, cd, op, bs⟩, .slice ya yl yc)], by omega, by go_num, HMR.out.1, by rw [List.map_append, HP.out, HTK.out]; rfl, by rw [HTK.out, totE_snoc]; have := HTOT.out; have := HYL.out; show totE (E.take k) + bs.length ≤ _; omega, fun e he => by
        rw [HTK.out] at he
        rcases List.mem_append.1 he with he | he
        · exact HBD.out e he
        · rw [List.mem_singleton.1 he]; have := HYL.out; show bs.length ≤ 9000; omega, BB2.out.trans HMR.out.2⟩
      case measure => simp [intOf]; omega
    · obtain rfl : n = k := by omega
      have htl : E.take n = E := List.take_of_length_le (by rw [← HN.out]; exact Nat.le_refl _)
      rw [htl] at hP htot hbd
      have hevs := hO.evsAt
      rw [hP] at hevs
      have HEVS := Lib.hid hevs
      have HTOT := Lib.hid htot
      have HBD := Lib.hid hbd
      have HOLD := Lib.hid hold
      clear htl hP htot hbd hevs hold hO hm H0 B5
      go_wp2_with fail
      refine (rall_any _ E wr HEVS.out (by rw [← HN.out]; omega) (by have := HTOT.out; omega)).mono ?_
      rintro e W5 ⟨qv, bb, Q, rfl, hQ, hB, hmap, hlen, hb5⟩
      obtain ⟨qa, qc, rfl⟩ := hQ.form
      obtain ⟨ba, bc, rfl⟩ := row_form hB
      obtain ⟨qn, hqn⟩ : ∃ x, x = Q.length := ⟨_, rfl⟩
      obtain ⟨T, hT⟩ : ∃ T, T = (run10 E).1 := ⟨_, rfl⟩
      rw [← hT] at hmap
      rw [← hqn]
      have hqn6 : qn ≤ 60 := by have := HN.out; omega
      have hQs : RecOwn s W5 (.slice qa Q.length qc) Q := ⟨by
        obtain ⟨h1, h2 | ⟨g, cap, cur, e, hg, r⟩⟩ := hQ.row
        · exact ⟨h1, .inl h2⟩
        · exact ⟨h1, .inr ⟨g, cap, cur, e, by omega, r⟩⟩, fun p hp => own_low (hQ.own p hp) hsz⟩
      rw [← hqn] at hQs
      have HQ5 := Lib.hid hQs
      have BB5 := Lib.hid (HOLD.out.trans (hb5.mono hsz))
      have hz5 : s ≤ W5.heap.size := by have := BB5.out.size; have := HS.out; omega
      have HMAP := Lib.hid hmap
      have HT := Lib.hid hT
      have HQN := Lib.hid hqn
      clear hQ hB hmap hlen hb5 hT hqn hQs
      go_wp2_with fail
      refine (all_any _ E W5 (HEV.out.below (by rw [← HS.out]; exact BB5.out)) (by rw [← HN.out]; omega) (fun e he => by have := HBD.out e he; omega)).mono ?_
      rintro e W6 ⟨rv, R, rfl, hR, hRm, hb6⟩
      have hM := run10_M E
      have hrs : (runM E).rs = shorts T := by rw [hM, HT.out]; rfl
      have hln : (runM E).n = longs T := by rw [hM, HT.out]; rfl
      have hR8 := rows8_mine hR
      rw [hRm, hrs] at hR8
      rw [hln]
      obtain ⟨ra, rc, rfl, hr8⟩ := hR8
      obtain ⟨rn, hrn⟩ : ∃ x, x = (shorts T).length := ⟨_, rfl⟩
      have hR8 : Rows8 W6 (.slice ra (shorts T).length rc) (shorts T) := ⟨ra, rc, rfl, hr8⟩
      rw [← hrn] at hR8 ⊢
      have hTl : T.length = qn := by rw [← HMAP.out, List.length_map, HQN.out]
      have hrn6 : rn ≤ 60 := by have := shorts_len T; omega
      have hlT := longs_len T
      obtain ⟨tl, htl⟩ : ∃ x, x = longs T := ⟨_, rfl⟩
      rw [← htl] at hlT ⊢
      have HR8 := Lib.hid hR8
      have HQ6 := Lib.hid (HQ5.out.below hb6)
      have BB6 := Lib.hid (BB5.out.trans (hb6.mono hz5))
      have HTL := Lib.hid hTl
      have HRN := Lib.hid hrn
      have HTLN := Lib.hid htl
      have HTS := Lib.hid (shorts_small (show ∀ p ∈ T, p.1.length ≤ 8192 by rw [HT.out]; exact run10_small E))
      have hlt6 : tl ≤ 60 := by omega
      clear hR hRm hb6 hM hrs hln hr8 hR8 hrn hTl hlT htl
      go_wp2_with fail
      go_loopw [17, 18, 86] (fun c j i wr => SpRel2 T s qn w (.slice qa qn qc) (.slice ra rn rc) Q c j i wr) (fun _ _ i _ => qn - (intOf i).toNat)
      case atStart => exact ⟨0, by omega, rfl, by rw [HTLN.out]; simp [longs], by simp [shorts], HQ6.out, HR8.out, BB6.out⟩
      case round =>
        obtain ⟨k, hk, rfl, rfl, rfl, hQ, hR, hold⟩ := hrel
        obtain ⟨c, hcd⟩ : ∃ c, c = longs T - longs (T.take k) := ⟨_, rfl⟩
        obtain ⟨j, hjd⟩ : ∃ j, j = (shorts (T.take k)).length := ⟨_, rfl⟩
        rw [← hcd, ← hjd]
        have hjk : j ≤ k := by have := shorts_len (T.take k); rw [List.length_take] at this; omega
        have hck : c ≤ 60 := by have := HTLN.out; omega
        have hj0 : (0 : Int) ≤ (j : Int) := Int.natCast_nonneg _
        have HCD := Lib.hid hcd
        have HJD := Lib.hid hjd
        have HQ := Lib.hid hQ
        have HR := Lib.hid hR
        have HOLD2 := Lib.hid hold
        clear hcd hjd hQ hR hold HQ6 HR8 BB6
        by_cases hkn : k < qn
        · have hki : (k : Int) < (qn : Int) := by omega
          have hk0 : (0 : Int) ≤ (k : Int) := Int.natCast_nonneg _
          obtain ⟨p, hp⟩ : ∃ p, Q[k]? = some p := ⟨_, List.getElem?_eq_getElem (by rw [← HQN.out]; exact hkn)⟩
          obtain ⟨g, rfl, d0, d1⟩ := rec_at HQ.out hp
          have htk : T[k]? = some (p.1, p.2.1) := by rw [← HMAP.out, List.getElem?_map, hp]; rfl
          have hnext := shorts_take htk
          obtain ⟨D, lg, y⟩ := p
          have hown := HQ.out.own (D, lg, y) (List.mem_of_getElem? hp)
          simp only at d0 d1 hnext hown htk
          obtain ⟨ya, yc, rfl⟩ := row_form hown
          obtain ⟨yn, hyn⟩ : ∃ z, z = D.length := ⟨_, rfl⟩
          rw [← hyn] at d0 hown
          have hsz7 : s ≤ wr.heap.size := by have := HOLD2.out.size; have := HS.out; omega
          have hb7 := below_alloc wr (.cells #[.slice ya yn yc, .bool lg] 96)
          have hblk := heap_alloc_new wr (.cells #[.slice ya yn yc, .bool lg] 96)
          obtain ⟨W7, hW7⟩ : ∃ W, W = wr.alloc (.cells #[.slice ya yn yc, .bool lg] 96) := ⟨_, rfl⟩
          obtain ⟨bx, hbx⟩ : ∃ bx, bx = wr.heap.size := ⟨_, rfl⟩
          rw [← hW7] at hb7 hblk
          rw [← hbx] at hblk
          have HW7 := Lib.hid hW7.symm
          have HBX := Lib.hid hbx.symm
          have HQ7 := Lib.hid (HQ.out.below hb7)
          have HR7 := Lib.hid (HR.out.below hb7)
          have BB7 := Lib.hid (HOLD2.out.trans (hb7.mono hsz7))
          have HOWN := Lib.hid (hown.below hb7)
          have HNX := Lib.hid hnext
          have HTK := Lib.hid htk
          have HYN := Lib.hid hyn
          have e0 : W7.cell? ⟨bx, 0, none⟩ = some (.slice ya yn yc) := by simp [World.cell?, hblk]
          have e1 : W7.cell? ⟨bx, 1, none⟩ = some (.bool lg) := by simp [World.cell?, hblk]
          clear hp hnext htk hown hyn hb7 hblk hW7 hbx HQ HR HOLD2
          go_upto_region 23 with fail
          rw [HW7.out, HBX.out]
          cases lg with
          | true =>
            obtain ⟨c', rfl⟩ : ∃ c', c = c' + 1 := ⟨c - 1, by
              have h1 := HNX.out.2
              have h2 := longs_le T (k + 1)
              have h3 := HCD.out
              simp at h1
              omega⟩
            have hw1 : IntKind.i64.wrap (((c' + 1 : Nat) : Int) - 1) = (c' : Int) := by rw [show ((c' + 1 : Nat) : Int) - 1 = (c' : Int) by omega]; exact IntWalk.i64_in _ (by omega)
            have hw2 : IntKind.i64.wrap ((c' : Int) + 1 - 1) = (c' : Int) := by rw [show (c' : Int) + 1 - 1 = (c' : Int) by omega]; exact IntWalk.i64_in _ (by omega)
            have HR5 := Lib.hid (show c' = longs T - longs (T.take (k + 1)) ∧ j = (shorts (T.take (k + 1))).length from ⟨by rw [HNX.out.2]; have := HCD.out; simp; omega, by rw [HNX.out.1, HJD.out]; simp⟩)
            go_wp2_with fail
            go_roundw
            case rel => exact ⟨k + 1, by omega, by go_num, by rw [← HR5.out.1], by rw [← HR5.out.2], HQ7.out, HR7.out, BB7.out⟩
            case measure => simp [intOf]; omega
          | false =>
            have hat := shorts_at HTK.out
            rw [← HJD.out] at hat
            have hjr : j < rn := by rw [HRN.out]; exact (List.getElem?_eq_some_iff.1 hat).1
            have hjr2 : ¬ (rn : Int) ≤ (j : Int) := by omega
            have hjr3 : (j : Int) < (rn : Int) := by omega
            have hR8 := HR7.out
            obtain ⟨ra', rc', e', hr8⟩ := hR8
            injection e' with e1' e2' e3'
            subst e1'
            obtain ⟨g8, o8, rfl, _, hc8⟩ := hr8 (by intro e; rw [e] at hat; simp at hat)
            obtain ⟨x, a0, hx⟩ := hc8 j D hat
            have HX := Lib.hid hx
            have HY := Lib.hid HOWN.out.row
            have HDL : Hid (D.length ≤ maxLen) := Lib.hid (by have := HTS.out D (List.mem_of_getElem? hat); unfold maxLen; omega)
            have HR5 := Lib.hid (show c = longs T - longs (T.take (k + 1)) ∧ j + 1 = (shorts (T.take (k + 1))).length from ⟨by rw [HNX.out.2]; have := HCD.out; simpa using this, by rw [HNX.out.1, HJD.out]; simp⟩)
            have hw1 : IntKind.i64.wrap ((j : Int) + 1) = (j : Int) + 1 := IntWalk.i64_in _ (by omega)
            clear hat hr8 hc8 hx e2' e3' d0 d1
            go_wp2_with fail
            go_quiet (first | (go_at_call 11; exact same_at HX.out HY.out HDL.out))
            go_wp2_with fail
            go_roundw
            case rel => exact ⟨k + 1, by omega, by go_num, by rw [← HR5.out.1], by rw [← HR5.out.2]; go_num, HQ7.out.below (below_drewN (Below.refl _ _) _), HR7.out.below (below_drewN (Below.refl _ _) _), below_drewN BB7.out _⟩
            case measure => simp [intOf]; omega
        · obtain rfl : qn = k := by omega
          have htl : T.take qn = T := List.take_of_length_le (by rw [HTL.out]; exact Nat.le_refl _)
          have hj : j = rn := by rw [HJD.out, htl, HRN.out]
          have hc0 : c = 0 := by rw [HCD.out, htl]; omega
          subst hj
          subst hc0
          clear htl
          go_wp2_with fail
          go_ret
          exact ⟨rfl, HOLD2.out⟩
end Go.Proofs.Ytimidoaafllnkaa.Rec
