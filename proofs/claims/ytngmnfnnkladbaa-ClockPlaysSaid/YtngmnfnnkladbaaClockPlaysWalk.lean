/-
  The walk of ClockPlays.
-/
import Derived.Test.YtngmnfnnkladbaaClockPlaysB
import Derived.Deep.CutBlock
import Derived.Deep.DeepCutAuto
import Derived.BigQuiet
import Derived.Deep.QuietTactic
namespace Go.Proofs.Ytngmnfnnkladbaa.Clock
open Go.RowKit
open Mail (Turn ret_int ret_bool sameInts_any RowOf ownsRow_base info_int)
set_option linter.unusedVariables false

theorem now_at {w : World} {b n : Nat} {now : Int} {L : List (Int × Int)} (h : ClockAt w b now L) : Calls Try.prog 35 #[.pointer (some ⟨b, 0, none⟩)] (w.drewN n) fun e w' => e = .returned (.int .i64 now) ∧ ∃ m, w' = w.drewN m :=
  (now_any (h.drewN n)).mono fun e w' ⟨he, hw⟩ => ⟨he, n, hw.symm⟩
theorem len_at {w : World} {b n m : Nat} {now : Int} {L : List (Int × Int)} (h : ClockAt w b now L) (hm : L.length = m) : Calls Try.prog 36 #[.pointer (some ⟨b, 0, none⟩)] (w.drewN n) fun e w' => e = .returned (.int .i64 m) ∧ ∃ k, w' = w.drewN k :=
  (len_any (h.drewN n)).mono fun e w' ⟨he, hw⟩ => ⟨by rw [he, hm], n, hw.symm⟩
theorem RefRow.shape {base : Nat} {w : World} {v : Value} {R : List (Int × Int)} (h : RefRow base w v R) : ∃ a cap, v = .slice a R.length cap := by
  rcases h.lit with ⟨rfl, rfl⟩ | ⟨g, cap, rfl, _⟩
  · exact ⟨_, _, rfl⟩
  · exact ⟨_, _, rfl⟩
def PlAny (s : Nat) (w wr : World) : Prop := ∃ now L R v, PQ s w now L now R v wr ∧ R.Perm L
def PlRel (s n : Nat) (w : World) (i : Value) (wr : World) : Prop := ∃ k : Nat, k ≤ n ∧ i = .int .i64 k ∧ PlAny s w wr
set_option maxRecDepth 100000 in
set_option maxHeartbeats 8000000 in
theorem clockPlays_walk (v : Value) (ops : List (Int × Int × Int)) (ask : Int) (w : World) (hv : Open.Ops3At w v ops) (hm : ops.length ≤ maxLen) :
    Calls Try.prog 7 #[v, .int .i64 ask] w fun e W' => e = .returned (.bool true) ∧ Below w.heap.size w W' := by
  have hz := (zero_of_info info_clock).1
  have hz2 := (zero_of_info info_rc).1
  obtain ⟨a, cap, rfl, ha⟩ := hv
  obtain ⟨n, hn⟩ : ∃ n, n = ops.length := ⟨_, rfl⟩
  rw [← hn] at hm ⊢
  unfold maxLen at hm
  have HA := Lib.hid ha
  have HN := Lib.hid hn
  clear ha hn
  by_cases hbig : 100 < n
  · have hd : decide ((100 : Int) < (n : Int)) = true := by simp; omega
    go_enter Try.func7, Try.ntmps7
    go_wp2_with (go_at_call 24; refine (alive_any _).mono ?_; rintro e w' ⟨rfl, hb⟩)
    go_ret
    exact ⟨rfl, hb⟩
  · have hle : n ≤ 100 := by omega
    have hd : decide ((100 : Int) < (n : Int)) = false := by simp; omega
    clear hbig
    go_enter Try.func7, Try.ntmps7
    go_wp2_with (go_at_call 24; refine (alive_any _).mono ?_; rintro e w1 ⟨rfl, hb1⟩)
    obtain ⟨s, hs⟩ : ∃ s, s = w1.heap.size := ⟨_, rfl⟩
    obtain ⟨W0, hW⟩ : ∃ W0, W0 = (w1.alloc (.cells (clk 0 (fun _ => (0, 0)) 0) 57)).alloc (.cells #[.int .i64 0, .slice none 0 0] 60) := ⟨_, rfl⟩
    have HP0 := Lib.hid (pq_new hs hW)
    have hsw : w.heap.size ≤ s := by rw [hs]; exact hb1.size
    rw [← hW, ← hs]
    have HB1 := Lib.hid hb1
    clear hd hW hs hz hz2 hb1
    go_loopw [35] (fun i wr => PlRel s n w1 i wr) (fun i _ => n - (intOf i).toNat)
    case atStart => exact ⟨0, by omega, rfl, 0, [], [], _, HP0.out, List.Perm.refl _⟩
    case round =>
      obtain ⟨k, hk, rfl, now, L, R, v, P, hpm⟩ := hrel
      have HP := Lib.hid P
      have HPM := Lib.hid hpm
      clear P hpm HP0
      by_cases hkn : k < n
      · obtain ⟨g, off, rfl, hgw, hcells⟩ := HA.out (by intro e; have := HN.out; rw [e] at this; simp at this; omega)
        obtain ⟨q, hq⟩ : ∃ q, ops[k]? = some q := ⟨_, List.getElem?_eq_getElem (by have := HN.out; omega)⟩
        obtain ⟨kind, id, t⟩ := q
        have hbw := HB1.out.trans (HP.out.one.old.mono hsw)
        obtain ⟨d0, d1, d2⟩ := hcells k kind id t hq
        have d0 := (hbw.cell (p := ⟨g, off + k * 3, none⟩) hgw).trans d0
        have d1 := (hbw.cell (p := ⟨g, off + k * 3 + 1, none⟩) hgw).trans d1
        have d2 := (hbw.cell (p := ⟨g, off + k * 3 + 2, none⟩) hgw).trans d2
        clear hcells hq hbw
        go_upto_block 2 with fail
        have hPA := HP.out.below (((Below.refl _ wr).alloc (Nat.le_refl _) (.cells #[.int .i64 kind, .int .i64 id, .int .i64 t] 62)))
        have hOB : OB wr.heap.size kind id t (wr.alloc (.cells #[.int .i64 kind, .int .i64 id, .int .i64 t] 62)) := heap_alloc_new wr _
        have HPA := Lib.hid hPA
        obtain ⟨wa, hwa⟩ : ∃ wa, wa = wr.alloc (.cells #[.int .i64 kind, .int .i64 id, .int .i64 t] 62) := ⟨_, rfl⟩
        rw [← hwa] at hOB HPA ⊢
        obtain ⟨ow, how⟩ : ∃ ow, ow = wr.heap.size := ⟨_, rfl⟩
        rw [← how] at hOB ⊢
        obtain ⟨o0, o1, o2, owl⟩ := hOB.facts
        have HOB := Lib.hid hOB
        have hows : s + 2 ≤ ow := by rw [how]; exact HP.out.lt
        clear hPA HP hwa how hOB
        go_cut [] (fun wx => PlAny s w1 wx)
        case first =>
          have hkind : (kind = 0 ∨ kind = 1) ∨ kind = 2 ∨ (kind = 3 ∨ kind = 4) ∨ (kind ≠ 0 ∧ kind ≠ 1 ∧ kind ≠ 2 ∧ kind ≠ 3 ∧ kind ≠ 4) := by omega
          obtain ⟨va, vm, vc, rfl⟩ := HPA.out.row.slice
          obtain ⟨x0, x1, xf, xl⟩ := HPA.out.facts
          have hR64 := HPA.out.len HPM.out
          have n0 := HPA.out.one.wf.n0
          have n1 := HPA.out.one.wf.n1
          have hL64 := HPA.out.one.clock.le
          rcases hkind with hk | rfl | hk | ⟨k0, k1, k2, k3, k4⟩
          · obtain ⟨hpp, hpe⟩ := rput_perm (now := now) HPM.out hL64 id t
            have HPP := Lib.hid hpp
            have HPE := Lib.hid hpe
            clear hpp hpe
            rcases hk with rfl | rfl
            all_goals
              go_wp2_with fail
              refine (pq_set id t HPA.out).mono ?_
              rintro e w2 ⟨rfl, P2, K2⟩
              obtain ⟨o0, o1, o2, owl⟩ := (HOB.out.kp K2 hows).facts
              have HOB := Lib.hid (HOB.out.kp K2 hows)
              obtain ⟨x0, x1, xf, xl⟩ := P2.facts
              have HP2 := Lib.hid P2
              clear P2 K2
              go_wp2_with fail
              refine (pq_rset id t HP2.out hR64 n0 n1).mono ?_
              rintro e w3 ⟨v3, rfl, P3, r3, K3⟩
              obtain ⟨o0, o1, o2, owl⟩ := (HOB.out.kp K3 hows).facts
              have HOB := Lib.hid (HOB.out.kp K3 hows)
              rw [HPE.out]
              obtain ⟨va3, vm3, vc3, rfl⟩ := r3.slice
              obtain ⟨x0, x1, xf, xl⟩ := P3.facts
              have HP3 := Lib.hid P3
              have HR3 := Lib.hid r3
              clear P3 r3 K3
              obtain ⟨f, hf⟩ : ∃ f, f = setE L id t := ⟨_, rfl⟩
              rw [← hf]
              clear hf
              go_wp2_with fail
              go_meet
              case rel => exact ⟨now, putA now L id t, rputA now R id t, _, (HP3.out.put HR3.out).alloc _, HPP.out⟩
          · obtain ⟨b, hb⟩ : ∃ b, b = has L id := ⟨_, rfl⟩
            have HB := Lib.hid hb
            have HB2 := Lib.hid (hb.trans (has_perm HPM.out id).symm)
            clear hb
            go_wp2_with fail
            refine (pq_find id HPA.out hR64).mono ?_
            rintro e w2 ⟨rfl, P2, K2⟩
            obtain ⟨o0, o1, o2, owl⟩ := (HOB.out.kp K2 hows).facts
            have HOB := Lib.hid (HOB.out.kp K2 hows)
            obtain ⟨x0, x1, xf, xl⟩ := P2.facts
            have HP2 := Lib.hid P2
            clear P2 K2
            rw [← HB2.out]
            go_wp2_with fail
            refine (pq_rdrop id HP2.out hR64).mono ?_
            rintro e w3 ⟨v3, rfl, P3, r3, K3⟩
            obtain ⟨o0, o1, o2, owl⟩ := (HOB.out.kp K3 hows).facts
            have HOB := Lib.hid (HOB.out.kp K3 hows)
            obtain ⟨va3, vm3, vc3, rfl⟩ := r3.slice
            obtain ⟨x0, x1, xf, xl⟩ := P3.facts
            have HP3 := Lib.hid P3
            have HR3 := Lib.hid r3
            clear P3 r3 K3
            go_wp2_with fail
            have P4 := HP3.out.put (nr' := now) HR3.out
            refine (pq_drop id P4).mono ?_
            rintro e w5 ⟨rfl, P5, K5⟩
            rw [← HB.out]
            have HP5 := Lib.hid P5
            clear P4 P5 K5
            go_wp2_with fail
            go_meet
            case rel => exact ⟨now, dropL L id, dropL R id, _, HP5.out, drop_perm HPM.out id⟩
          · rcases hk with rfl | rfl
            all_goals
              go_wp2_with fail
              refine (pq_go t HPA.out).mono ?_
              rintro e w2 ⟨u2, rfl, R2, P2, K2⟩
              obtain ⟨o0, o1, o2, owl⟩ := (HOB.out.kp K2 hows).facts
              have HOB := Lib.hid (HOB.out.kp K2 hows)
              obtain ⟨x0, x1, xf, xl⟩ := P2.facts
              have HP2 := Lib.hid P2
              have HR2 := Lib.hid R2
              clear P2 R2 K2
              go_wp2_with fail
              refine (pq_rgo t HP2.out HPM.out HPA.out.one.wf hR64 HR2.out).mono ?_
              rintro e w3 ⟨v3, u3, R3, rfl, P3, r3, p3, R3', R2', K3⟩
              obtain ⟨o0, o1, o2, owl⟩ := (HOB.out.kp K3 hows).facts
              have HOB := Lib.hid (HOB.out.kp K3 hows)
              obtain ⟨va3, vm3, vc3, rfl⟩ := r3.slice
              obtain ⟨x0, x1, xf, xl⟩ := P3.facts
              have HP3 := Lib.hid P3
              have HR3 := Lib.hid r3
              have HG2 := Lib.hid R2'
              have HG3 := Lib.hid R3'
              have HP3' := Lib.hid p3
              clear P3 r3 K3 R2' R3' p3
              go_wp2_with fail
              have P4 := (HP3.out.put (nr' := stepI now t) HR3.out).alloc (.cells #[.int .i64 (stepI now t), .slice va3 vm3 vc3] 60)
              have q2 := (own_setCell (own_setCell HG2.out (s + 1) 0 (.int .i64 (stepI now t)) (by omega)) (s + 1) 1 (.slice va3 vm3 vc3) (by omega))
              have q3 := (own_setCell (own_setCell HG3.out (s + 1) 0 (.int .i64 (stepI now t)) (by omega)) (s + 1) 1 (.slice va3 vm3 vc3) (by omega))
              have q2' := own_below q2 ((Below.refl _ _).alloc (Nat.le_refl _) (.cells #[.int .i64 (stepI now t), .slice va3 vm3 vc3] 60))
              have q3' := own_below q3 ((Below.refl _ _).alloc (Nat.le_refl _) (.cells #[.int .i64 (stepI now t), .slice va3 vm3 vc3] 60))
              refine (pq_same P4 (RowOf.of_owns q2') (RowOf.of_owns q3') (by have := rung_length (stepI now t) L; unfold maxLen; omega)).mono ?_
              rintro e w5 ⟨rfl, P5⟩
              have HP5 := Lib.hid P5
              clear P4 P5 q2 q3 q2' q3'
              go_wp2_with fail
              go_meet
              case rel => exact ⟨stepI now t, restL (stepI now t) L, R3, _, HP5.out, HP3'.out⟩
          · go_wp2_with fail
            go_meet
            case rel => exact ⟨now, L, R, _, HPA.out, HPM.out⟩
        case rest =>
          clear HPM HPA HOB d0 d1 d2 o0 o1 o2
          obtain ⟨now, L, R, v, P1, hpm⟩ := hcut
          have HP1 := Lib.hid P1
          have HPM := Lib.hid hpm
          obtain ⟨va, vc, rfl⟩ := P1.row.shape
          have hR64 := P1.len hpm
          obtain ⟨m, hm⟩ : ∃ m, m = L.length := ⟨_, rfl⟩
          rw [hpm.length_eq, ← hm] at HP1 P1
          have HLEN := Lib.hid hm.symm
          clear hm
          obtain ⟨x0, x1, xf, xl⟩ := P1.facts
          have hfp := find_perm hpm P1.one.wf.ids ask
          have hhp := has_perm hpm ask
          obtain ⟨a, ha⟩ : ∃ a, a = findI L ask := ⟨_, rfl⟩
          obtain ⟨b, hb⟩ : ∃ b, b = has L ask := ⟨_, rfl⟩
          rw [← ha] at hfp
          rw [← hb] at hhp
          have hleft : leftI now L ask = if b then a - now else 0 := by
            rw [ha, hb]; unfold leftI findI
            cases has L ask <;> rfl
          have hbd : 0 ≤ a ∧ a ≤ 1099511627776 := by
            rw [ha]; unfold findI
            cases hh : has L ask with
            | false => simp
            | true =>
              have hlt : fi L ask < L.length := by simpa [has] using hh
              have := P1.one.wf.due (L.getD (fi L ask) (0, 0)) (by simp [List.getD, hlt])
              unfold MT at this
              simpa using this
          obtain ⟨a0, a1⟩ := hbd
          have n0 := P1.one.wf.n0
          have n1 := P1.one.wf.n1
          unfold MT at n1
          obtain ⟨lf, hlf⟩ : ∃ lf, lf = leftI now L ask := ⟨_, rfl⟩
          rw [← hlf] at hleft
          have HFP := Lib.hid hfp
          have HHP := Lib.hid hhp
          have HB := Lib.hid hb
          have HLF := Lib.hid hlf
          clear P1 hpm hfp hhp ha hb hlf
          cases b
          case' false => (simp at hleft; subst hleft)
          case' true => (simp at hleft; subst hleft)
          all_goals
            go_wp2_with fail
            refine (pq_find ask HP1.out hR64).mono ?_
            rintro e w2 ⟨rfl, P2, K2⟩
            rw [HFP.out, HHP.out]
            have HP2 := Lib.hid P2
            clear P2 K2 x0 x1 xf xl HP1
            go_wp2_with fail
            refine (pq_left ask HP2.out).mono ?_
            rintro e w3 ⟨rfl, P3⟩
            rw [← HLF.out, ← HB.out]
            obtain ⟨x0, x1, xf, xl⟩ := P3.facts
            have HP3 := Lib.hid P3
            clear P3 HP2
            cases hL : L
            case' nil =>
              subst hL
              have hR0 : R = [] := HPM.out.eq_nil
              subst hR0
              go_wp2_with fail
              refine (pq_rnext0 HP3.out).mono ?_
              rintro e w4 ⟨rfl, P4⟩
              have P5 := P4.alloc (.cells #[.int .i64 0, .int .i64 0] 75)
              have hfb : (w4.alloc (.cells #[.int .i64 0, .int .i64 0] 75)).heap[w4.heap.size]? = some (.cells #[.int .i64 0, .int .i64 0] 75 (0, 0)) := heap_alloc_new w4 _
              obtain ⟨w5, hw5⟩ : ∃ w5, w5 = w4.alloc (.cells #[.int .i64 0, .int .i64 0] 75) := ⟨_, rfl⟩
              have HW5 := Lib.hid hw5
              rw [← hw5] at P5 hfb
              obtain ⟨x0, x1, xf, xl⟩ := P5.facts
              have f0 : w5.cell? ⟨w4.heap.size, 1, none⟩ = some (.int .i64 0) := by simp [World.cell?, hfb]
              have HP5 := Lib.hid P5
              clear P4 P5 hw5 hfb
              go_wp2_with fail
              rw [← HW5.out]
              refine (next_none HP5.out.one.clock).mono ?_
              rintro e w' ⟨rfl, rfl⟩
              clear HW5 HP3
              go_wp2_with fail
              go_quiet (first
                | (go_at_call 35; exact now_at HP5.out.one.clock)
                | (go_at_call 36; exact len_at HP5.out.one.clock HLEN.out))
              go_wp2_with fail
              go_roundw
              case rel => exact ⟨k + 1, by omega, by go_num, now, [], [], _, HP5.out.drewN nq, List.Perm.refl _⟩
              case measure => simp [intOf]; omega
            case' cons p L2 =>
              subst hL
              have HLT := Lib.hid HP3.out.lt
              go_wp2_with fail
              refine (pq_rnext HP3.out HPM.out).mono ?_
              rintro e w4 ⟨rfl, P4⟩
              obtain ⟨p1, p2⟩ := p
              have P5 := P4.alloc (.cells #[.int .i64 p2, .int .i64 p1] 75)
              have hfb : (w4.alloc (.cells #[.int .i64 p2, .int .i64 p1] 75)).heap[w4.heap.size]? = some (.cells #[.int .i64 p2, .int .i64 p1] 75 (0, 0)) := heap_alloc_new w4 _
              obtain ⟨w5, hw5⟩ : ∃ w5, w5 = w4.alloc (.cells #[.int .i64 p2, .int .i64 p1] 75) := ⟨_, rfl⟩
              have HW5 := Lib.hid hw5
              rw [← hw5] at P5 hfb
              obtain ⟨x0, x1, xf, xl⟩ := P5.facts
              have f0 : w5.cell? ⟨w4.heap.size, 1, none⟩ = some (.int .i64 p1) := by simp [World.cell?, hfb]
              have HP5 := Lib.hid P5
              clear P4 P5 hw5 hfb
              go_wp2_with fail
              rw [← HW5.out]
              refine (next_some HP5.out.one.clock).mono ?_
              rintro e w' ⟨rfl, rfl⟩
              clear HW5 HP3
              go_wp2_with fail
              go_quiet (first
                | (go_at_call 35; exact now_at HP5.out.one.clock)
                | (go_at_call 36; exact len_at HP5.out.one.clock HLEN.out))
              go_wp2_with fail
              go_roundw
              case rel => exact ⟨k + 1, by omega, by go_num, now, _, R, _, HP5.out.drewN nq, HPM.out⟩
              case measure => simp [intOf]; omega
      · go_wp2_with fail
        go_ret
        exact ⟨rfl, HB1.out.trans (HP.out.one.old.mono hsw)⟩
/-- The walk, as the frame wants it. -/
theorem clockPlays_law {w : World} (v : Value) (L : List (Int × Int × Int)) (h : Open.Ops3At w v L ∧ L.length ≤ maxLen ∧ ∀ p ∈ L, Open.I64 p.1 ∧ Open.I64 p.2.1 ∧ Open.I64 p.2.2) (ask : Int) (h2 : (Lit.int .i64 ask).wf = true) :
    Calls Try.prog 7 #[v, .int .i64 ask] w fun e W' => e = .returned (.bool true) ∧ Below w.heap.size w W' :=
  clockPlays_walk v L ask w h.1 h.2.1
end Go.Proofs.Ytngmnfnnkladbaa.Clock
