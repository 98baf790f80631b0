/-
  The contracts of marked, take, Feed and Open.
-/
import Derived.Test.YtimidoaafllnkaaDecB
import Derived.Test.YtimidoaafllnkaaDecD
namespace Go.Proofs.Ytimidoaafllnkaa.Iac
open Go.RowKit Base
set_option linter.unusedVariables false

theorem eventE_state (D : Dec) (n : Nat) : eventE { D with state := n } = eventE D := rfl
set_option maxRecDepth 100000 in
set_option maxHeartbeats 4000000 in
theorem marked_any (s b : Nat) (D : Dec) (v : Value) (P : List EvP) (x : Int) (w : World) (hd : DecAt w b D) (h : EvsOwn s w v P) (hbs : b < s) (hs : s ≤ w.heap.size) (hl : P.length ≤ 99999) (hb : ∀ p ∈ P, p.1.bytes.length ≤ 100000) :
    Calls Try.prog 120 #[.pointer (some ⟨b, 0, none⟩), v, .int .u8 x] w (Fed2 s b w (markedD D (P.map (·.1)) x)) := by
  obtain ⟨i0, hi, hz0, hz1, hz2⟩ := info_parts info_event
  have hz := (zero_of_info (v := .agg #[.int .i64 0, .int .u8 0, .int .u8 0, .slice none 0 0]) (n := 4) (P := Try.prog) (t := 26) (by kernel_rfl)).1
  obtain ⟨c0, _, _, _, _, _⟩ := hd.cell
  have f0 := hd.frozen 0
  obtain ⟨a, cap, rfl⟩ := h.form
  obtain ⟨n, hn⟩ : ∃ n, n = P.length := ⟨_, rfl⟩
  have HB := Lib.hid hb
  have HD := Lib.hid hd
  have HN := Lib.hid hn
  have H := Lib.hid h
  rw [← hn] at hl H ⊢
  clear hb hd h hn
  by_cases x1 : x = 255
  · subst x1
    rw [show markedD D (P.map (·.1)) 255 = (keepD { D with state := 3 } 255, P.map (·.1)) from rfl]
    have HD1 := Lib.hid (HD.out.setState 3)
    have HT1 := Lib.hid (turn_set w b 0 (.int .i64 (3 : Nat)))
    go_enter Try.func120, Try.ntmps120
    go_wp2_with fail
    refine (keep_any 255 HD1.out).mono ?_
    rintro e w2 ⟨rfl, hD2, hT2⟩
    have HD2 := Lib.hid hD2
    have HT2 := Lib.hid (HT1.out.trans hT2)
    clear hD2 hT2
    go_wp2_with fail
    go_ret
    exact ⟨_, P, rfl, HD2.out, H.out.turn HT2.out (fun k hk => by rw [show k = b from hk]; exact hbs), rfl, turn_or HT2.out⟩
  · have t1 : (x == 255) = false := by simpa using x1
    by_cases x2 : x = 240
    · subst x2
      rw [show markedD D (P.map (·.1)) 240 = ({ D with state := 0 }, P.map (·.1) ++ [eventE D]) from rfl]
      have hT1 := turn_set w b 0 (.int .i64 (0 : Nat))
      have hE1 := H.out.turn hT1 fun k hk => by rw [show k = b from hk]; exact hbs
      have hD1 := HD.out.setState 0
      obtain ⟨W, hW⟩ : ∃ W, W = w.setCell ⟨b, 0, none⟩ (.int .i64 (0 : Nat)) := ⟨_, rfl⟩
      rw [← hW] at hT1 hE1 hD1
      have hsW : s ≤ W.heap.size := Nat.le_trans hs hT1.size
      have HW : Hid (w.setCell ⟨b, 0, none⟩ (.int .i64 0) = W) := Lib.hid hW.symm
      have HT1 := Lib.hid hT1
      have HE1 := Lib.hid hE1
      have HD1 := Lib.hid hD1
      clear x1 t1 hW hT1 hE1 hD1
      go_enter Try.func120, Try.ntmps120
      go_wp2_with fail
      rw [HW.out]
      refine (event_any HD1.out).mono ?_
      rw [eventE_state]
      rintro e w2 ⟨u, rfl, R, b2⟩
      have hraw := (HE1.out.below b2).row
      have HE2 := Lib.hid (HE1.out.below b2)
      have HD2 := Lib.hid (HD1.out.below b2)
      have HT2 := Lib.hid (Turn.of_below (S := At b) b2)
      have HB2 := Lib.hid b2
      have hs2 : s ≤ w2.heap.size := Nat.le_trans hsW b2.size
      have HR := Lib.hid (R.lower hsW)
      have HFR := Lib.hid (HE1.out.fresh (e := eventE D) (k := W.heap.size) (Nat.le_refl _) (fun g e => R.first g e))
      rw [← HN.out] at hraw
      obtain ⟨ua, uc, rfl⟩ := R.slice
      have HCL := Lib.hid (ev_cl w2 (eventE D).kind (eventE D).code (eventE D).option (.slice ua (eventE D).bytes.length uc))
      clear b2 R
      go_wp2_with (at_builtin; refine wpList_append_own _ rfl _ _ 22 rfl s 26 i0 (.agg #[.int .i64 0, .int .u8 0, .int .u8 0, .slice none 0 0]) 4 40 Try.underlying22 hi hz0 hz1 hz2 rfl (by decide) _ _ _ rfl (hraw.alloc _) ⟨w2.heap.size, 0, none⟩ 1 1 [.int .i64 (eventE D).kind, .int .u8 (eventE D).code, .int .u8 (eventE D).option, .slice ua (eventE D).bytes.length uc] rfl rfl HCL.out (by simp [Value.oneCell']) (by unfold maxLen; omega) (by omega) (by rw [World.size_alloc]; omega) ?_; intro v' w5 hown' hgrow _)
      go_ret
      have hE3 := HE2.out.grown (e := eventE D) HR.out HFR.out (by rw [← HN.out]; exact hown') hgrow
      have hT3 := turn_grown_from hgrow hs2 HE2.out.rowFirst
      exact ⟨_, _, rfl, HD2.out.turn hT3 (by show ¬ s ≤ b; omega), hE3, by simp, ((turn_or HT1.out).trans (turn_or HT2.out)).trans (turn_orR hT3)⟩
    · have t2 : (x == 240) = false := by simpa using x2
      have hc : markedD D (P.map (·.1)) x = commandD D ((P ++ [((badE D, .slice none 0 0) : EvP)]).map (·.1)) x := by unfold markedD; rw [if_neg x1, if_neg x2, List.map_append]; rfl
      rw [hc]
      have HC := Lib.hid hc
      obtain ⟨r, hr⟩ : ∃ r, r = commandD D ((P ++ [((badE D, .slice none 0 0) : EvP)]).map (·.1)) x := ⟨_, rfl⟩
      rw [← hr]
      have HRR := Lib.hid hr
      clear x1 x2 hc hr
      go_enter Try.func120, Try.ntmps120
      go_wp2_with fail
      refine (bad_any HD.out).mono ?_
      rintro e w2 ⟨rfl, b2⟩
      have hraw := (H.out.below b2).row
      have HE2 := Lib.hid (H.out.below b2)
      have HD2 := Lib.hid (HD.out.below b2)
      have HT2 := Lib.hid (Turn.of_below (S := At b) b2)
      have hs2 : s ≤ w2.heap.size := Nat.le_trans hs b2.size
      rw [← HN.out] at hraw
      have HCL := Lib.hid (ev_cl w2 7 0 D.option (.slice none 0 0))
      clear b2
      go_wp2_with (at_builtin; refine wpList_append_own _ rfl _ _ 22 rfl s 26 i0 (.agg #[.int .i64 0, .int .u8 0, .int .u8 0, .slice none 0 0]) 4 40 Try.underlying22 hi hz0 hz1 hz2 rfl (by decide) _ _ _ rfl (hraw.alloc _) ⟨w2.heap.size, 0, none⟩ 1 1 [.int .i64 7, .int .u8 0, .int .u8 D.option, .slice none 0 0] rfl rfl HCL.out (by simp [Value.oneCell']) (by unfold maxLen; omega) (by omega) (by rw [World.size_alloc]; omega) ?_; intro v' w5 hown' hgrow _)
      have hE3 := HE2.out.grown (e := badE D) (OwnBytes.nil _ _) (fun p hp => Apart.none) (by rw [← HN.out]; exact hown') hgrow
      have hT3 := turn_grown_from hgrow hs2 HE2.out.rowFirst
      have hD3 := HD2.out.turn hT3 (by show ¬ s ≤ b; omega)
      have HT3 := Lib.hid ((turn_or HT2.out).trans (turn_orR (b := b) hT3))
      have hs3 : s ≤ w5.heap.size := Nat.le_trans hs2 hT3.size
      clear hown' hgrow
      refine (command_any s b D v' _ x w5 hD3 hE3 hbs hs3 (by rw [List.length_append, ← HN.out]; simp; omega) (fun p hp => (List.mem_append.1 hp).elim (fun hp => HB.out p hp) (fun hp => by rw [List.mem_singleton.1 hp]; simp [badE]))).mono ?_
      rw [← HRR.out]
      rintro e w6 ⟨v6, P6, rfl, hD6, hE6, hP6, hT6⟩
      have HD6 := Lib.hid hD6
      have HE6 := Lib.hid hE6
      have HP6 := Lib.hid hP6
      have HT6 := Lib.hid hT6
      clear hD6 hE6 hP6 hT6 hE3 hT3 hD3
      go_wp2_with fail
      go_ret
      exact ⟨_, P6, rfl, HD6.out, HE6.out, HP6.out, HT3.out.trans HT6.out⟩
set_option maxRecDepth 100000 in
set_option maxHeartbeats 4000000 in
theorem take_any (s b : Nat) (D : Dec) (v : Value) (P : List EvP) (x : Int) (w : World) (hd : DecAt w b D) (h : EvsOwn s w v P) (hst : D.state ≤ 4) (hbs : b < s) (hs : s ≤ w.heap.size) (hl : P.length ≤ 99999) (hb : ∀ p ∈ P, p.1.bytes.length ≤ 100000) :
    Calls Try.prog 97 #[.pointer (some ⟨b, 0, none⟩), v, .int .u8 x] w (Fed2 s b w (takeD D (P.map (·.1)) x)) := by
  obtain ⟨i0, hi, hz0, hz1, hz2⟩ := info_parts info_event
  have hz := (zero_of_info (v := .agg #[.int .i64 0, .int .u8 0, .int .u8 0, .slice none 0 0]) (n := 4) (P := Try.prog) (t := 26) (by kernel_rfl)).1
  obtain ⟨c0, _, _, _, _, _⟩ := hd.cell
  have f0 := hd.frozen 0
  obtain ⟨a, cap, rfl⟩ := h.form
  have HB := Lib.hid hb
  have HD := Lib.hid hd
  have H := Lib.hid h
  obtain ⟨n, hn⟩ : ∃ n, n = P.length := ⟨_, rfl⟩
  have HN := Lib.hid hn
  rw [← hn] at hl H ⊢
  obtain ⟨st, hst2⟩ : ∃ st, st = D.state := ⟨_, rfl⟩
  rw [← hst2] at c0 hst
  have HST := Lib.hid hst2.symm
  clear hb hd h hn hst2
  have hcase : st = 0 ∨ st = 1 ∨ st = 2 ∨ st = 3 ∨ st = 4 := by omega
  rcases hcase with rfl | rfl | rfl | rfl | rfl
  · by_cases x1 : x = 255
    · subst x1
      have hc : takeD D (P.map (·.1)) 255 = ({ D with state := 1 }, P.map (·.1)) := by unfold takeD; rw [HST.out]; rfl
      rw [hc]
      have HD1 := Lib.hid (HD.out.setState 1)
      have HT1 := Lib.hid (turn_set w b 0 (.int .i64 (1 : Nat)))
      clear hc
      go_enter Try.func97, Try.ntmps97
      go_wp2_with fail
      go_ret
      exact ⟨_, P, rfl, HD1.out, H.out.turn HT1.out (fun k hk => by rw [show k = b from hk]; exact hbs), rfl, turn_or HT1.out⟩
    · have t1 : (x == 255) = false := by simpa using x1
      have hc : takeD D (P.map (·.1)) x = (D, layL (P.map (·.1)) x) := by unfold takeD; rw [HST.out]; simp [x1]
      rw [hc]
      clear x1 hc
      go_enter Try.func97, Try.ntmps97
      go_wp2_with fail
      refine (lay_any s (.slice a n cap) P x w H.out hs (by rw [← HN.out]; omega) HB.out).mono ?_
      rintro e w2 ⟨v2, P2, rfl, hE2, hP2, hT2⟩
      have HE2 := Lib.hid hE2
      have HP2 := Lib.hid hP2
      have HT2 := Lib.hid hT2
      clear hE2 hP2 hT2
      go_wp2_with fail
      go_ret
      exact ⟨_, P2, rfl, HD.out.turn HT2.out (by show ¬ s ≤ b; omega), HE2.out, HP2.out, turn_orR HT2.out⟩
  · have hc : takeD D (P.map (·.1)) x = commandD D (P.map (·.1)) x := by unfold takeD; rw [HST.out]; rfl
    rw [hc]
    clear hc
    go_enter Try.func97, Try.ntmps97
    go_wp2_with fail
    refine (command_any s b D (.slice a n cap) P x w HD.out H.out hbs hs (by rw [← HN.out]; omega) HB.out).mono ?_
    rintro e w6 ⟨v6, P6, rfl, hD6, hE6, hP6, hT6⟩
    have HD6 := Lib.hid hD6
    have HE6 := Lib.hid hE6
    have HP6 := Lib.hid hP6
    have HT6 := Lib.hid hT6
    clear hD6 hE6 hP6 hT6
    go_wp2_with fail
    go_ret
    exact ⟨_, P6, rfl, HD6.out, HE6.out, HP6.out, HT6.out⟩
  · have hc : takeD D (P.map (·.1)) x = ({ D with state := 0 }, P.map (·.1) ++ [⟨4, D.verb, x, []⟩]) := by unfold takeD; rw [HST.out]; rfl
    rw [hc]
    have hT1 := turn_set w b 0 (.int .i64 (0 : Nat))
    have hE1 := H.out.turn hT1 fun k hk => by rw [show k = b from hk]; exact hbs
    have hD1 := HD.out.setState 0
    obtain ⟨W, hW⟩ : ∃ W, W = w.setCell ⟨b, 0, none⟩ (.int .i64 (0 : Nat)) := ⟨_, rfl⟩
    rw [← hW] at hT1 hE1 hD1
    have hsW : s ≤ W.heap.size := Nat.le_trans hs hT1.size
    obtain ⟨_, d1, _, _, _, _⟩ := hD1.cell
    have d1 : W.cell? ⟨b, 1, none⟩ = some (.int .u8 D.verb) := d1
    have HW : Hid (w.setCell ⟨b, 0, none⟩ (.int .i64 0) = W) := Lib.hid hW.symm
    have HT1 := Lib.hid hT1
    have HE1 := Lib.hid hE1
    have HD1 := Lib.hid hD1
    have hraw := hE1.row
    rw [← HN.out] at hraw
    have HCL := Lib.hid (ev_cl W 4 D.verb x (.slice none 0 0))
    clear hW hT1 hE1 hD1 hc
    go_enter Try.func97, Try.ntmps97
    go_upto_region 10 with fail
    rw [HW.out]
    go_wp2_with (at_builtin; refine wpList_append_own _ rfl _ _ 22 rfl s 26 i0 (.agg #[.int .i64 0, .int .u8 0, .int .u8 0, .slice none 0 0]) 4 40 Try.underlying22 hi hz0 hz1 hz2 rfl (by decide) _ _ _ rfl (hraw.alloc _) ⟨W.heap.size, 0, none⟩ 1 1 [.int .i64 4, .int .u8 D.verb, .int .u8 x, .slice none 0 0] rfl rfl HCL.out (by simp [Value.oneCell']) (by unfold maxLen; omega) (by omega) (by rw [World.size_alloc]; omega) ?_; intro v' w5 hown' hgrow _)
    go_ret
    have hE3 := HE1.out.grown (e := ⟨4, D.verb, x, []⟩) (OwnBytes.nil _ _) (fun p hp => Apart.none) (by rw [← HN.out]; exact hown') hgrow
    have hT3 := turn_grown_from hgrow hsW HE1.out.rowFirst
    exact ⟨_, _, rfl, HD1.out.turn hT3 (by show ¬ s ≤ b; omega), hE3, by simp, (turn_or HT1.out).trans (turn_orR hT3)⟩
  · by_cases x1 : x = 255
    · subst x1
      have hc : takeD D (P.map (·.1)) 255 = ({ D with state := 4 }, P.map (·.1)) := by unfold takeD; rw [HST.out]; rfl
      rw [hc]
      have HD1 := Lib.hid (HD.out.setState 4)
      have HT1 := Lib.hid (turn_set w b 0 (.int .i64 (4 : Nat)))
      clear hc
      go_enter Try.func97, Try.ntmps97
      go_wp2_with fail
      go_ret
      exact ⟨_, P, rfl, HD1.out, H.out.turn HT1.out (fun k hk => by rw [show k = b from hk]; exact hbs), rfl, turn_or HT1.out⟩
    · have t1 : (x == 255) = false := by simpa using x1
      have hc : takeD D (P.map (·.1)) x = (keepD D x, P.map (·.1)) := by unfold takeD; rw [HST.out]; simp [x1]
      rw [hc]
      clear x1 hc
      go_enter Try.func97, Try.ntmps97
      go_wp2_with fail
      refine (keep_any x HD.out).mono ?_
      rintro e w2 ⟨rfl, hD2, hT2⟩
      have HD2 := Lib.hid hD2
      have HT2 := Lib.hid hT2
      clear hD2 hT2
      go_wp2_with fail
      go_ret
      exact ⟨_, P, rfl, HD2.out, H.out.turn HT2.out (fun k hk => by rw [show k = b from hk]; exact hbs), rfl, turn_or HT2.out⟩
  · have hc : takeD D (P.map (·.1)) x = markedD D (P.map (·.1)) x := by unfold takeD; rw [HST.out]; rfl
    rw [hc]
    clear hc
    go_enter Try.func97, Try.ntmps97
    go_wp2_with fail
    refine (marked_any s b D (.slice a n cap) P x w HD.out H.out hbs hs (by rw [← HN.out]; omega) HB.out).mono ?_
    rintro e w6 ⟨v6, P6, rfl, hD6, hE6, hP6, hT6⟩
    have HD6 := Lib.hid hD6
    have HE6 := Lib.hid hE6
    have HP6 := Lib.hid hP6
    have HT6 := Lib.hid hT6
    clear hD6 hE6 hP6 hT6
    go_wp2_with fail
    go_ret
    exact ⟨_, P6, rfl, HD6.out, HE6.out, HP6.out, HT6.out⟩
end Go.Proofs.Ytimidoaafllnkaa.Iac
