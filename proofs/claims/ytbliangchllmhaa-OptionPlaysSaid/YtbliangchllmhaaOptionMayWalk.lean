/-
  The walk of OptionMay.
-/
import Derived.Test.YtbliangchllmhaaOptMayA
namespace Go.Proofs.Ytbliangchllmhaa.Opt
open Go.RowKit Base
set_option linter.unusedVariables false

/-- The options in block B, which may be on in block X. -/
structure MayAt (B X : Nat) (u v : Value) (w W : World) (M : Nat → Bool) (S : Nat → Nat) : Prop where
  oa : OA B w W M S
  calm : Calm M S
  box : W.heap[X]? = some (.cells #[.slice none 0 0, u, v] 61 (0, 0))
  ne : X ≠ B
theorem MayAt.turn {B X : Nat} {u v : Value} {w W W' : World} {M : Nat → Bool} {S S' : Nat → Nat} (h : MayAt B X u v w W M S) (o : OA B w W' M S') (c : Calm M S') (t : Turn (At B) W W') : MayAt B X u v w W' M S' :=
  ⟨o, c, (t.block X (lt_of_block h.box) h.ne).trans h.box, h.ne⟩
theorem MayAt.below {B X : Nat} {u v : Value} {w W W' : World} {M : Nat → Bool} {S : Nat → Nat} (h : MayAt B X u v w W M S) (t : Below W.heap.size W W') : MayAt B X u v w W' M S :=
  ⟨h.oa.below t, h.calm, (t.block X (lt_of_block h.box)).trans h.box, h.ne⟩
theorem MayAt.cells {B X : Nat} {u v : Value} {w W : World} {M : Nat → Bool} {S : Nat → Nat} (h : MayAt B X u v w W M S) : W.cell? ⟨X, 0, none⟩ = some (.slice none 0 0) ∧ W.cell? ⟨X, 1, none⟩ = some u ∧ W.cell? ⟨X, 2, none⟩ = some v :=
  ⟨by simp [World.cell?, h.box], by simp [World.cell?, h.box], by simp [World.cell?, h.box]⟩
def MayRel (B X : Nat) (u v : Value) (w : World) (M : Nat → Bool) (wr : World) : Prop := ∃ S, MayAt B X u v w wr M S
theorem gate {a b c : Nat} : (30 < a ∨ 30 < b ∨ 60 < c) ∨ (a ≤ 30 ∧ b ≤ 30 ∧ c ≤ 60) := by omega
set_option maxRecDepth 100000 in
set_option maxHeartbeats 8000000 in
theorem optionMay_law {w : World} (u : Value) (A : List Int) (hA : RowOf .u8 w u A ∧ A.length ≤ maxLen ∧ ∀ n ∈ A, Open.Byte n) (v : Value) (B : List Int) (hB : RowOf .u8 w v B ∧ B.length ≤ maxLen ∧ ∀ n ∈ B, Open.Byte n)
    (z : Value) (L : List (Bool × Nat × Nat)) (hL : Open.StepsAt w z L ∧ L.length ≤ maxLen ∧ ∀ p ∈ L, p.2.1 < 256 ∧ p.2.2 < 256) :
    Calls Try.prog 10 #[u, v, z] w fun e W' => e = .returned (.bool true) ∧ Below w.heap.size w W' := by
  obtain ⟨hA, hA2, hA3⟩ := hA
  obtain ⟨hB, hB2, hB3⟩ := hB
  obtain ⟨⟨la, lcap, rfl, hL⟩, hL2, hL3⟩ := hL
  have HRA := Lib.hid hA
  have HRB := Lib.hid hB
  obtain ⟨ua, ucap, rfl, _⟩ := hA
  obtain ⟨va, vcap, rfl, _⟩ := hB
  obtain ⟨na, hna⟩ : ∃ n, n = A.length := ⟨_, rfl⟩
  obtain ⟨nb, hnb⟩ : ∃ n, n = B.length := ⟨_, rfl⟩
  obtain ⟨n, hn⟩ : ∃ n, n = L.length := ⟨_, rfl⟩
  have HA2 := Lib.hid hA2
  have HB2 := Lib.hid hB2
  have HA3 := Lib.hid hA3
  have HB3 := Lib.hid hB3
  rw [← hn] at hL2 ⊢
  rw [← hna] at HRA hA2 ⊢
  rw [← hnb] at HRB hB2 ⊢
  unfold maxLen at hA2 hB2 hL2
  have HN := Lib.hid hn
  have HL := Lib.hid hL
  have HL3 := Lib.hid hL3
  clear hn hna hnb hA3 hB3 hL hL3
  by_cases hbig : n ≤ 60 ∧ na ≤ 30 ∧ nb ≤ 30
  · obtain ⟨b1, b2, b3⟩ := hbig
    have d1 : decide ((60 : Int) < (n : Int)) = false := by simp; omega
    have d2 : decide ((30 : Int) < (na : Int)) = false := by simp; omega
    have d3 : decide ((30 : Int) < (nb : Int)) = false := by simp; omega
    go_enter Try.func10, Try.ntmps10
    go_wp2_with (go_at_call 30; refine (alive_any _).mono ?_; rintro e w1 ⟨rfl, hb1⟩)
    have HU1 := Lib.hid (HRA.out.below hb1)
    have HV1 := Lib.hid (HRB.out.below hb1)
    refine (new_st (w := w) _ _ A B (mayM A B) HU1.out HV1.out HA3.out HB3.out HA2.out HB2.out rfl hb1).mono ?_
    rintro e W1 ⟨rfl, T1, bn⟩
    obtain ⟨b, hb⟩ : ∃ b, b = w1.heap.size := ⟨_, rfl⟩
    rw [← hb] at T1 ⊢
    obtain ⟨M, hM⟩ : ∃ M, M = mayM A B := ⟨_, rfl⟩
    rw [← hM] at T1
    have HM := Lib.hid hM
    have T1 : OA b w W1 M a0 := T1
    clear hb bn hb1 hM HU1 HV1
    go_wp2_with fail
    obtain ⟨X, hX⟩ : ∃ X, X = W1.heap.size := ⟨_, rfl⟩
    obtain ⟨W2, hW2⟩ : ∃ W2, W2 = W1.alloc (.cells #[.slice none 0 0, .slice ua na ucap, .slice va nb vcap] 61) := ⟨_, rfl⟩
    have M0 : MayAt b X (.slice ua na ucap) (.slice va nb vcap) w W2 M a0 := by
      have hl := T1.opt.lt
      rw [hX, hW2]
      exact ⟨T1.below (below_alloc _ _), fun o _ => ⟨.inl rfl, .inl rfl⟩, heap_alloc_new W1 _, by omega⟩
    rw [← hW2, ← hX]
    have HM0 := Lib.hid M0
    clear hW2 hX T1 M0 d1 d2 d3
    go_loopw [37] (fun i wr => ∃ k : Nat, k ≤ n ∧ i = .int .i64 k ∧ MayRel b X (.slice ua na ucap) (.slice va nb vcap) w M wr) (fun i _ => n - (intOf i).toNat)
    case atStart => exact ⟨0, by omega, rfl, a0, HM0.out⟩
    case round =>
      obtain ⟨k, hk, rfl, S, MA⟩ := hrel
      clear HM0
      have HMA := Lib.hid MA
      by_cases hkn : k < n
      · have hkl : k < L.length := by rw [← HN.out]; exact hkn
        obtain ⟨g, off, rfl, hgw, hcells⟩ := HL.out (by intro e; rw [e] at hkl; simp at hkl)
        obtain ⟨q, hq⟩ : ∃ q, L[k]? = some q := ⟨_, List.getElem?_eq_getElem hkl⟩
        obtain ⟨wish, c, o⟩ := q
        have hco := HL3.out _ (List.mem_of_getElem? hq)
        have hc256 : c < 256 := hco.1
        have ho : o < 256 := hco.2
        obtain ⟨d0, d1, d2⟩ := hcells k wish c o hq
        have hbw := MA.oa.old
        have d0 := (hbw.cell (p := ⟨g, off + k * 3, none⟩) hgw).trans d0
        have d1 := (hbw.cell (p := ⟨g, off + k * 3 + 1, none⟩) hgw).trans d1
        have d2 := (hbw.cell (p := ⟨g, off + k * 3 + 2, none⟩) hgw).trans d2
        have hbl := MA.oa.opt.lt
        clear hcells hq hbw MA hco hkl
        go_wp2_with fail
        obtain ⟨ow, how⟩ : ∃ ow, ow = wr.heap.size := ⟨_, rfl⟩
        have M1 := HMA.out.below (below_alloc wr (.cells #[.bool wish, .int .u8 c, .int .u8 o] 63))
        have hcell : (wr.alloc (.cells #[.bool wish, .int .u8 c, .int .u8 o] 63)).heap[ow]? = some (.cells #[.bool wish, .int .u8 c, .int .u8 o] 63 (0, 0)) := by rw [how]; exact heap_alloc_new wr _
        have hob : ow ≠ b := by omega
        have hlo : ow < (wr.alloc (.cells #[.bool wish, .int .u8 c, .int .u8 o] 63)).heap.size := lt_of_block hcell
        rw [← how]
        refine (got_st (w := w) (c : Int) (o : Int) o ho rfl (gotS M S c o).1 (gotS M S c o).2 M1.oa rfl rfl).mono ?_
        rintro e W3 ⟨y, rfl, R3, T3, t3⟩
        have hcell3 := (t3.block ow hlo hob).trans hcell
        have M3 := M1.turn T3 (M1.calm.got c o ho) t3
        have o2 : W3.cell? ⟨ow, 2, none⟩ = some (.int .u8 o) := by simp [World.cell?, hcell3]
        obtain ⟨S', hS'⟩ : ∃ S', S' = (gotS M S c o).1 := ⟨_, rfl⟩
        obtain ⟨Y, hY⟩ : ∃ Y, Y = (gotS M S c o).2 := ⟨_, rfl⟩
        have hsaid := got_said M S c o
        rw [← hY] at R3 hsaid
        rw [← hS'] at M3
        have HM3 := Lib.hid M3
        have HC3 := Lib.hid hcell3
        have HR3 := Lib.hid R3.row
        have HSD := Lib.hid hsaid
        clear hS' hY hsaid R3 T3 t3 M1 hcell hcell3 hlo d0 d1 d2 HMA how M3
        go_upto_region 10 with fail
        go_cut [80] from 47 to 80 (fun v wx => v = .bool false ∧ ∃ n, wx = W3.drewN n)
        case first =>
          rcases HSD.out with h | ⟨kk, k1, k2, h⟩
          · have HR := HR3.out
            rw [h] at HR
            obtain ⟨p, cp, rfl, _⟩ := HR
            clear h
            go_quiet (fail)
            go_wp2_with fail
            go_meet
            exact ⟨rfl, _, rfl⟩
          · have HR := HR3.out
            rw [h] at HR
            obtain ⟨p, cp, rfl, hc⟩ := HR
            obtain ⟨gg, oo, rfl, hc2⟩ := hc (by simp)
            have e0 := hc2 0 (by simp)
            have e1 := hc2 1 (by simp)
            have e2 := hc2 2 (by simp)
            simp at e0 e1 e2
            have q1 : decide (kk < (251 : Int)) = false := by simp; omega
            have q2 : decide ((254 : Int) < kk) = false := by simp; omega
            clear h hc hc2
            go_quiet (fail)
            go_wp2_with fail
            go_meet
            exact ⟨rfl, _, rfl⟩
        case rest =>
          obtain ⟨rfl, n3, rfl⟩ := hcut
          have M3 : MayAt b X (.slice ua na ucap) (.slice va nb vcap) w (W3.drewN n3) M S' := HM3.out.below (below_drewN (Below.refl _ _) n3)
          have hcell3 : (W3.drewN n3).heap[ow]? = some (.cells #[.bool wish, .int .u8 c, .int .u8 o] 63 (0, 0)) := HC3.out
          obtain ⟨W4, hW4⟩ : ∃ W4, W4 = W3.drewN n3 := ⟨_, rfl⟩
          rw [← hW4] at M3 hcell3 ⊢
          have M4 := M3.below (below_alloc W4 (.cells #[.bool true, .bool false] 4))
          have hcell4 := ((below_alloc W4 (.cells #[.bool true, .bool false] 4)).block ow (lt_of_block hcell3)).trans hcell3
          have hsl := heap_alloc_new W4 (.cells #[.bool true, .bool false] 4)
          obtain ⟨sl, hsl'⟩ : ∃ sl, sl = W4.heap.size := ⟨_, rfl⟩
          obtain ⟨W5, hW5⟩ : ∃ W5, W5 = W4.alloc (.cells #[.bool true, .bool false] 4) := ⟨_, rfl⟩
          rw [← hW5] at M4 hcell4 hsl
          rw [← hsl'] at hsl
          have HM4 := Lib.hid M4
          have HC4 := Lib.hid hcell4
          have HSL := Lib.hid hsl
          have HW5 := Lib.hid hW5.symm
          have HSL' := Lib.hid hsl'.symm
          clear hW4 M3 hcell3 HM3 HC3 HR3 HSD M4 hcell4 hsl hW5 hsl' o2
          go_wp2_with fail
          rw [HW5.out, HSL'.out]
          go_loopw [83] (fun i wx => ∃ j : Int, (j = 0 ∨ j = 1 ∨ j = 2) ∧ i = .int .i64 j ∧ Below W5.heap.size W5 wx) (fun i _ => 2 - (intOf i).toNat)
          case atStart => exact ⟨0, .inl rfl, rfl, Below.refl _ _⟩
          case round =>
            obtain ⟨j, hj, rfl, hbx⟩ := hrel
            have M6 := HM4.out.below hbx
            have hcell6 := (hbx.block ow (lt_of_block HC4.out)).trans HC4.out
            have hsl6 := (hbx.block sl (lt_of_block HSL.out)).trans HSL.out
            obtain ⟨x0, x1, x2⟩ := M6.cells
            have o2 : wr.cell? ⟨ow, 2, none⟩ = some (.int .u8 o) := by simp [World.cell?, hcell6]
            have l0 : wr.cell? ⟨sl, 0, none⟩ = some (.bool true) := by simp [World.cell?, hsl6]
            have l1 : wr.cell? ⟨sl, 1, none⟩ = some (.bool false) := by simp [World.cell?, hsl6]
            have HM6 := Lib.hid M6
            have HBX := Lib.hid hbx
            have hu6 := Lib.hid (HRA.out.below M6.oa.old)
            have hv6 := Lib.hid (HRB.out.below M6.oa.old)
            clear M6 hcell6 hsl6 hbx
            rcases hj with rfl | rfl | rfl
            · by_cases hs : stOf S' true o = 1
              · have hmay : ((listOf true A B).any fun x => x == (o : Int)) = true := by
                  rw [← mayM_any A B HA3.out HB3.out true o ho, ← HM.out]
                  exact HM6.out.calm.on true o ho hs
                have HMAY := Lib.hid hmay
                have HSS := Lib.hid hs
                clear hs hmay
                go_wp2_with fail
                refine (on_st (w := w) true (o : Int) o ho rfl true HM6.out.oa (decide_eq_true HSS.out)).mono ?_
                rintro e W' ⟨rfl, rfl⟩
                go_wp2_with fail
                refine (may_any (.slice ua na ucap) (.slice va nb vcap) A B (.slice none 0 0) true (o : Int) wr hu6.out hv6.out HA2.out HB2.out).mono ?_
                rintro e W7 ⟨rfl, hb7⟩
                rw [HMAY.out]
                have HB7 := Lib.hid (HBX.out.trans (hb7.mono HBX.out.size))
                clear hb7
                go_wp2_with fail
                go_roundw
                case rel => exact ⟨1, (.inr (.inl rfl)), rfl, HB7.out⟩
                case measure => simp [intOf]
              · have HSS := Lib.hid hs
                clear hs
                go_wp2_with fail
                refine (on_st (w := w) true (o : Int) o ho rfl false HM6.out.oa (decide_eq_false HSS.out)).mono ?_
                rintro e W' ⟨rfl, rfl⟩
                go_wp2_with fail
                go_roundw
                case rel => exact ⟨1, (.inr (.inl rfl)), rfl, HBX.out⟩
                case measure => simp [intOf]
            · by_cases hs : stOf S' false o = 1
              · have hmay : ((listOf false A B).any fun x => x == (o : Int)) = true := by
                  rw [← mayM_any A B HA3.out HB3.out false o ho, ← HM.out]
                  exact HM6.out.calm.on false o ho hs
                have HMAY := Lib.hid hmay
                have HSS := Lib.hid hs
                clear hs hmay
                go_wp2_with fail
                refine (on_st (w := w) false (o : Int) o ho rfl true HM6.out.oa (decide_eq_true HSS.out)).mono ?_
                rintro e W' ⟨rfl, rfl⟩
                go_wp2_with fail
                refine (may_any (.slice ua na ucap) (.slice va nb vcap) A B (.slice none 0 0) false (o : Int) wr hu6.out hv6.out HA2.out HB2.out).mono ?_
                rintro e W7 ⟨rfl, hb7⟩
                rw [HMAY.out]
                have HB7 := Lib.hid (HBX.out.trans (hb7.mono HBX.out.size))
                clear hb7
                go_wp2_with fail
                go_roundw
                case rel => exact ⟨2, (.inr (.inr rfl)), rfl, HB7.out⟩
                case measure => simp [intOf]
              · have HSS := Lib.hid hs
                clear hs
                go_wp2_with fail
                refine (on_st (w := w) false (o : Int) o ho rfl false HM6.out.oa (decide_eq_false HSS.out)).mono ?_
                rintro e W' ⟨rfl, rfl⟩
                go_wp2_with fail
                go_roundw
                case rel => exact ⟨2, (.inr (.inr rfl)), rfl, HBX.out⟩
                case measure => simp [intOf]
            · go_wp2_with fail
              go_roundw
              case rel => exact ⟨k + 1, by omega, by go_num, S', HM6.out⟩
              case measure => simp [intOf]; omega
      · obtain rfl : n = k := by omega
        go_wp2_with fail
        refine (busy_st (w := w) false HMA.out.oa HMA.out.calm.busy).mono ?_
        rintro e W' ⟨rfl, rfl⟩
        go_wp2_with fail
        go_ret
        exact ⟨rfl, HMA.out.oa.old⟩
  · have hcase : 60 < n ∨ (n ≤ 60 ∧ 30 < na) ∨ (n ≤ 60 ∧ na ≤ 30 ∧ 30 < nb) := by omega
    clear hbig
    rcases hcase with h | ⟨h, h'⟩ | ⟨h, h', h''⟩
    · have d1 : decide ((60 : Int) < (n : Int)) = true := by simp; omega
      go_enter Try.func10, Try.ntmps10
      go_wp2_with (go_at_call 30; refine (alive_any _).mono ?_; rintro e w1 ⟨rfl, hb1⟩)
      go_ret
      exact ⟨rfl, hb1⟩
    · have d1 : decide ((60 : Int) < (n : Int)) = false := by simp; omega
      have d2 : decide ((30 : Int) < (na : Int)) = true := by simp; omega
      go_enter Try.func10, Try.ntmps10
      go_wp2_with (go_at_call 30; refine (alive_any _).mono ?_; rintro e w1 ⟨rfl, hb1⟩)
      go_ret
      exact ⟨rfl, hb1⟩
    · have d1 : decide ((60 : Int) < (n : Int)) = false := by simp; omega
      have d2 : decide ((30 : Int) < (na : Int)) = false := by simp; omega
      have d3 : decide ((30 : Int) < (nb : Int)) = true := by simp; omega
      go_enter Try.func10, Try.ntmps10
      go_wp2_with (go_at_call 30; refine (alive_any _).mono ?_; rintro e w1 ⟨rfl, hb1⟩)
      go_ret
      exact ⟨rfl, hb1⟩
end Go.Proofs.Ytbliangchllmhaa.Opt
