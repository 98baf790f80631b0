/-
  The contract of order.
-/
import Derived.Test.YtmmgebiojpnhcaaDoorOrdG
import Derived.Deep.CutBlock
namespace Go.Proofs.YtmmgebiojpnhcaaDoor.Ord
open Go.RowKit Base
set_option linter.unusedVariables false
set_option linter.unusedSimpArgs false

section
variable {w w' W W' : World} {b : Nat} {a : Option Addr} {cap : Nat} {L : List Int} {i : Nat}
set_option maxRecDepth 100000 in
set_option maxHeartbeats 2000000 in
theorem order_any (h : Rdr w b a cap L i) (hi : i < L.length) :
    Calls Tryd.prog 39 #[.pointer (some ⟨b, 0, none⟩)] w (RdP b a cap L w (orderM L i) fun w' o V => OrdV w.heap.size w' o V) := by
  have hz := (zero_of_info info_ord).1
  obtain ⟨R, hR⟩ : ∃ R, R = orderM L i := ⟨_, rfl⟩
  rw [← hR]
  unfold orderM at hR
  have HR := Lib.hid hR
  have hlt := lt_of_block h.box
  have H0 := Lib.hid (h.below (below_alloc w (.cells #[.int .u8 0, .int .i64 0, .int .u8 0, .bool false, .slice none 0 0, .slice none 0 0] 92)))
  have B0 := Lib.hid (below_alloc w (.cells #[.int .u8 0, .int .i64 0, .int .u8 0, .bool false, .slice none 0 0, .slice none 0 0] 92))
  have N0 := Lib.hid (heap_alloc_new w (.cells #[.int .u8 0, .int .i64 0, .int .u8 0, .bool false, .slice none 0 0, .slice none 0 0] 92))
  obtain ⟨W0, hW0⟩ : ∃ W0, W0 = w.alloc (.cells #[.int .u8 0, .int .i64 0, .int .u8 0, .bool false, .slice none 0 0, .slice none 0 0] 92) := ⟨_, rfl⟩
  rw [← hW0] at H0 B0 N0
  obtain ⟨s, hs⟩ : ∃ s, s = w.heap.size := ⟨_, rfl⟩
  rw [← hs] at N0
  have HW0 := Lib.hid hW0.symm
  have HS := Lib.hid hs
  have HSB : Hid (b < s) := Lib.hid (by omega)
  clear hW0 hs h hlt hR
  obtain ⟨g, off, k, rfl, hx, x0, x1, hc⟩ := H0.out.byte hi
  obtain ⟨n, hn⟩ : ∃ n, n = L.length := ⟨_, rfl⟩
  have HN := Lib.hid hn
  obtain ⟨c0, c1, fz⟩ := H0.out.cells
  rw [← hn] at c0 hi
  have hii : (i : Int) < (n : Int) := by omega
  have hi0 : (0 : Int) ≤ (i : Int) := Int.natCast_nonneg _
  have HX := Lib.hid hx
  rw [hx] at HR
  clear hn hx fz
  by_cases hpl : plain k = true
  · have hR := HR.out
    rw [if_pos hpl] at hR
    subst hR
    have HPL := Lib.hid hpl
    clear hpl HR
    go_enter Tryd.func39, Tryd.ntmps39
    go_upto_region 1 with fail
    rw [HW0.out, ← HS.out]
    go_quiet ((go_at_call 50; exact plain_quiet _ _ _))
    rw [HPL.out]
    have H1 := Lib.hid (H0.out.drewN nq)
    have N1 : Hid ((W0.drewN nq).heap[s]? = _) := Lib.hid N0.out
    obtain ⟨W1, hW1⟩ : ∃ W1, W1 = W0.drewN nq := ⟨_, rfl⟩
    have T1 : Hid (Turn (At b) w W1) := Lib.hid (by rw [hW1]; exact (Turn.of_below B0.out).trans (Turn.of_below (below_drewN (Below.refl _ _) _)))
    rw [← hW1] at H1 N1
    have HW1 := Lib.hid hW1.symm
    clear hW1 c0 c1 hc
    go_upto_region 2 with fail
    rw [HW1.out]
    go_wp2_with fail
    refine (data_any H1.out (by rw [← HN.out]; exact hi) (by rw [HX.out]; exact HPL.out)).mono ?_
    rintro e W2 ⟨V, rfl, hown, h2, t2⟩
    obtain ⟨va, vc, rfl⟩ := hown.slice
    obtain ⟨m, hm⟩ : ∃ m, m = (dataL L i).length := ⟨_, rfl⟩
    rw [← hm] at h2 hown
    have HM := Lib.hid hm
    rw [show (dataL L i).length = m from hm.symm]
    clear hm
    have n2 := (t2.block s (lt_of_block N1.out) (fun e => by have : s = b := e; have := HSB.out; omega)).trans N1.out
    obtain ⟨_, _, _, _, _, _, f0, f1, f2, f3, f4, f5⟩ := cells6 n2
    have N2 := Lib.hid n2
    have H2 := Lib.hid h2
    have T2 := Lib.hid (T1.out.trans t2)
    have HO := Lib.hid hown
    clear n2 h2 t2 hown
    go_wp2_with fail
    have t := put6_turn W2 s (.int .u8 0) (.int .i64 0) (.int .u8 0) (.bool false) (.slice none 0 0) (.slice va m vc)
    have hsb := HSB.out
    refine bodyPost_ret (results_row rfl _ _ s _ rfl (load_ord (put6_row N2.out ..) rfl)) rfl ?_
    have hle : w.heap.size ≤ s := Nat.le_of_eq HS.out.symm
    refine ⟨turn_high T2.out hle t, ⟨_, rfl, _, _, rfl, ⟨rfl, .inl ⟨rfl, rfl⟩⟩, ?_⟩, ?_⟩
    · have hnew : w.heap.size ≤ W1.heap.size := T1.out.size
      have hsW : s < W1.heap.size := lt_of_block N1.out
      exact (HO.out.keep fun g hg hl => t.block g hl (fun e => by have : g = s := e; omega)).lower hnew
    · rw [show (dataL L i).length = m from HM.out.symm]
      exact H2.out.high (t.mono fun k hk => by have : k = s := hk; omega)
  · have hR := HR.out
    rw [if_neg hpl] at hR
    have HRK := Lib.hid hR
    have HPL : Hid (plain k = false) := Lib.hid (by simpa using hpl)
    clear hpl HR hR
    go_enter Tryd.func39, Tryd.ntmps39
    go_upto_region 1 with fail
    rw [HW0.out, ← HS.out]
    go_quiet ((go_at_call 50; exact plain_quiet _ _ _))
    rw [HPL.out]
    have H1 := Lib.hid (H0.out.drewN nq)
    have N1 : Hid ((W0.drewN nq).heap[s]? = _) := Lib.hid N0.out
    obtain ⟨W1, hW1⟩ : ∃ W1, W1 = W0.drewN nq := ⟨_, rfl⟩
    have T1 : Hid (Turn (At b) w W1) := Lib.hid (by rw [hW1]; exact (Turn.of_below B0.out).trans (Turn.of_below (below_drewN (Below.refl _ _) _)))
    rw [← hW1] at H1 N1
    have HW1 := Lib.hid hW1.symm
    clear hW1 c0 c1 hc
    go_upto_region 3 with fail
    rw [HW1.out]
    go_wp2_with fail
    refine (next_ok H1.out (by rw [← HN.out]; exact hi)).mono ?_
    rw [HX.out]
    rintro e W2 ⟨rfl, h2, t2⟩
    have n2 := (t2.block s (lt_of_block N1.out) (fun e => by have : s = b := e; have := HSB.out; omega)).trans N1.out
    have hsz : s < W2.heap.size := lt_of_block n2
    have b3 := below_alloc W2 (.cells #[.int .u8 k, .int .i64 0, .int .u8 0, .bool false, .slice none 0 0, .slice none 0 0] 92)
    have k3 := heap_alloc_new W2 (.cells #[.int .u8 k, .int .i64 0, .int .u8 0, .bool false, .slice none 0 0, .slice none 0 0] 92)
    obtain ⟨W3, hW3⟩ : ∃ W3, W3 = W2.alloc (.cells #[.int .u8 k, .int .i64 0, .int .u8 0, .bool false, .slice none 0 0, .slice none 0 0] 92) := ⟨_, rfl⟩
    obtain ⟨q, hq⟩ : ∃ q, q = W2.heap.size := ⟨_, rfl⟩
    rw [← hW3] at b3 k3
    rw [← hq] at k3
    have OQ3 : OQ w b (some ⟨g, off, none⟩) cap L s q ⟨k, 0, 0, false, [], []⟩ (.slice none 0 0) (.slice none 0 0) (i + 1) W3 :=
      ⟨k3, ⟨rfl, .inl ⟨rfl, rfl⟩⟩, ⟨rfl, .inl ⟨rfl, rfl⟩⟩, h2.below b3, (T1.out.trans t2).trans (Turn.of_below b3), (b3.block s hsz).trans n2, HS.out, by omega, HSB.out⟩
    have HQ := Lib.hid OQ3
    have HW3 := Lib.hid hW3.symm
    have HQQ := Lib.hid hq.symm
    clear h2 t2 n2 hsz b3 k3 OQ3 hW3 hq H1 N1 T1 HW1 HPL hii hi0 hi HX HN H0 N0 B0 HW0
    go_upto_region 4 with fail
    rw [HW3.out, HQQ.out]
    clear HW3 HQQ
    obtain ⟨q0, _⟩ := cells6 HQ.out.ob
    go_upto_block 0 with fail
    go_cut [] (fun wx => ∃ o vp vd j, R = .ok o j ∧ OQ w b (some ⟨g, off, none⟩) cap L s q o vp vd j wx)
    case first =>
      clear q0
      rcases ord_cases k with rfl | rfl | rfl | rfl | rfl | rfl | rfl | rfl | rfl | rfl | ⟨k1, k2, k3, k4, k5, k6, k7, k8, k9, k10⟩
      · go_wp2_with fail
        go_meet
        exact ⟨_, _, _, _, by rw [HRK.out]; rfl, HQ.out⟩
      · go_wp2_with fail
        go_meet
        exact ⟨_, _, _, _, by rw [HRK.out]; rfl, HQ.out⟩
      · have hc := place_any HQ.out.rd
        obtain ⟨r, hr⟩ : ∃ r, r = placeM L (i + 1) := ⟨_, rfl⟩
        have hRR : R = r.andThen fun x l => .ok ⟨17, x, 0, false, [], []⟩ l := by rw [HRK.out, hr]; simp [ordK]
        rw [← hr] at hc
        clear hr
        cases r with
        | bad f =>
          have hRb : R = .bad f := hRR
          subst hRb
          have HC := Lib.hid hc
          clear hc hRR HRK
          go_wp2_with fail
          refine HC.out.mono ?_
          rintro e W5 ⟨t5, he⟩
          have he : e = thrown f := he
          subst he
          have T5 := Lib.hid (HQ.out.t.trans t5)
          unfold thrown
          clear t5
          go_wp2_with fail
          exact ⟨rfl, T5.out, rfl⟩
        | ok x l =>
          have HRR : Hid (R = .ok ⟨17, x, 0, false, [], []⟩ l) := Lib.hid hRR
          have HC := Lib.hid hc
          clear hc hRR HRK
          go_wp2_with fail
          refine HC.out.mono ?_
          rintro e W5 ⟨t5, ⟨V, rfl, rfl⟩, h5⟩
          have Q5 := Lib.hid (HQ.out.rdr t5 h5)
          obtain ⟨_, c1, _, _, _, _, _, f1, _⟩ := cells6 Q5.out.ob
          clear t5 h5
          go_wp2_with fail
          go_meet
          refine ⟨⟨17, x, 0, false, [], []⟩, _, _, l, HRR.out, Q5.out.put (turn_set _ q 1 (.int .i64 x)) ?_ Q5.out.pr Q5.out.dr⟩
          have := heap_set Q5.out.ob 1 (.int .i64 x)
          simpa using this
      · have hc := place_any HQ.out.rd
        obtain ⟨r, hr⟩ : ∃ r, r = placeM L (i + 1) := ⟨_, rfl⟩
        have hRR : R = r.andThen fun x l => .ok ⟨18, x, 0, false, [], []⟩ l := by rw [HRK.out, hr]; simp [ordK]
        rw [← hr] at hc
        clear hr
        cases r with
        | bad f =>
          have hRb : R = .bad f := hRR
          subst hRb
          have HC := Lib.hid hc
          clear hc hRR HRK
          go_wp2_with fail
          refine HC.out.mono ?_
          rintro e W5 ⟨t5, he⟩
          have he : e = thrown f := he
          subst he
          have T5 := Lib.hid (HQ.out.t.trans t5)
          unfold thrown
          clear t5
          go_wp2_with fail
          exact ⟨rfl, T5.out, rfl⟩
        | ok x l =>
          have HRR : Hid (R = .ok ⟨18, x, 0, false, [], []⟩ l) := Lib.hid hRR
          have HC := Lib.hid hc
          clear hc hRR HRK
          go_wp2_with fail
          refine HC.out.mono ?_
          rintro e W5 ⟨t5, ⟨V, rfl, rfl⟩, h5⟩
          have Q5 := Lib.hid (HQ.out.rdr t5 h5)
          obtain ⟨_, c1, _, _, _, _, _, f1, _⟩ := cells6 Q5.out.ob
          clear t5 h5
          go_wp2_with fail
          go_meet
          refine ⟨⟨18, x, 0, false, [], []⟩, _, _, l, HRR.out, Q5.out.put (turn_set _ q 1 (.int .i64 x)) ?_ Q5.out.pr Q5.out.dr⟩
          have := heap_set Q5.out.ob 1 (.int .i64 x)
          simpa using this
      · have hc := next_any HQ.out.rd
        obtain ⟨r, hr⟩ : ∃ r, r = nx L (i + 1) := ⟨_, rfl⟩
        have hRR : R = r.andThen fun c l => (shownM c true l).andThen fun p m => .ok ⟨8, 0, p.1, false, [], []⟩ m := by rw [HRK.out, hr]; simp [ordK]
        rw [← hr] at hc
        clear hr
        cases r with
        | bad f =>
          have hRb : R = .bad f := hRR
          subst hRb
          have HC := Lib.hid hc
          clear hc hRR HRK
          go_wp2_with fail
          refine HC.out.mono ?_
          rintro e W5 ⟨t5, he⟩
          have he : e = thrown f := he
          subst he
          have T5 := Lib.hid (HQ.out.t.trans t5)
          unfold thrown
          clear t5
          go_wp2_with fail
          exact ⟨rfl, T5.out, rfl⟩
        | ok x l =>
          have hRR : R = (shownM x true l).andThen fun p m => .ok ⟨8, 0, p.1, false, [], []⟩ m := hRR
          have HC := Lib.hid hc
          clear hc HRK
          unfold shownM at hRR
          by_cases hs : standsB x true = true
          · rw [if_pos hs] at hRR
            have HRR : Hid (R = .ok ⟨8, 0, x, false, [], []⟩ l) := Lib.hid hRR
            have HS2 := Lib.hid hs
            clear hs hRR
            go_wp2_with fail
            refine HC.out.mono ?_
            rintro e W5 ⟨t5, ⟨V, rfl, rfl⟩, h5⟩
            have Q5 := Lib.hid (HQ.out.rdr t5 h5)
            obtain ⟨_, _, c2, _, _, _, _, _, f2, _⟩ := cells6 Q5.out.ob
            clear t5 h5
            go_wp2_with fail
            refine (shown_ok _ _ _ HS2.out).mono ?_
            rintro e w' ⟨rfl, rfl⟩
            go_wp2_with fail
            go_meet
            refine ⟨⟨8, 0, x, false, [], []⟩, _, _, l, HRR.out, Q5.out.put (turn_set _ q 2 (.int .u8 x)) ?_ Q5.out.pr Q5.out.dr⟩
            have := heap_set Q5.out.ob 2 (.int .u8 x)
            simpa using this
          · rw [if_neg hs] at hRR
            have hRb : R = .bad .none := hRR
            subst hRb
            have HS2 : Hid (standsB x true = false) := Lib.hid (by simpa using hs)
            clear hs hRR
            go_wp2_with fail
            refine HC.out.mono ?_
            rintro e W5 ⟨t5, ⟨V, rfl, rfl⟩, h5⟩
            have T5 := Lib.hid (HQ.out.t.trans t5)
            clear t5 h5
            go_wp2_with fail
            refine (shown_bad _ _ _ HS2.out).mono ?_
            rintro e w' ⟨rfl, rfl⟩
            unfold thrown
            go_wp2_with fail
            exact ⟨rfl, T5.out, rfl⟩
      · have hc := place_any HQ.out.rd
        obtain ⟨r, hr⟩ : ∃ r, r = placeM L (i + 1) := ⟨_, rfl⟩
        have hRR : R = r.andThen fun x l => (signM L l).andThen fun p m => .ok ⟨60, x, p.1, p.2, [], []⟩ m := by rw [HRK.out, hr]; simp [ordK]
        rw [← hr] at hc
        clear hr
        cases r with
        | bad f =>
          have hRb : R = .bad f := hRR
          subst hRb
          have HC := Lib.hid hc
          clear hc hRR HRK
          go_wp2_with fail
          refine HC.out.mono ?_
          rintro e W5 ⟨t5, he⟩
          have he : e = thrown f := he
          subst he
          have T5 := Lib.hid (HQ.out.t.trans t5)
          unfold thrown
          clear t5
          go_wp2_with fail
          exact ⟨rfl, T5.out, rfl⟩
        | ok x l =>
          have hRR : R = (signM L l).andThen fun p m => .ok ⟨60, x, p.1, p.2, [], []⟩ m := hRR
          have HRR := Lib.hid hRR
          have HC := Lib.hid hc
          clear hc hRR HRK
          go_upto_region 14 with fail
          go_wp2_with fail
          refine HC.out.mono ?_
          rintro e W5 ⟨t5, ⟨V, rfl, rfl⟩, h5⟩
          have Q5 := HQ.out.rdr t5 h5
          obtain ⟨_, c1, _, _, _, _, _, f1, _⟩ := cells6 Q5.ob
          have Q6 : OQ w b (some ⟨g, off, none⟩) cap L s q ⟨60, x, 0, false, [], []⟩ (.slice none 0 0) (.slice none 0 0) l (W5.setCell ⟨q, 1, none⟩ (.int .i64 x)) := Q5.put (turn_set _ q 1 (.int .i64 x)) (by
            have := heap_set Q5.ob 1 (.int .i64 x)
            simpa using this) Q5.pr Q5.dr
          obtain ⟨W6, hW6⟩ : ∃ W6, W6 = W5.setCell ⟨q, 1, none⟩ (.int .i64 x) := ⟨_, rfl⟩
          rw [← hW6] at Q6
          have HQ6 := Lib.hid Q6
          have HW6 := Lib.hid hW6.symm
          clear t5 h5 Q5 Q6 hW6
          go_upto_region 15 with fail
          rw [HW6.out]
          have hc2 := sign_any HQ6.out.rd
          obtain ⟨r2, hr2⟩ : ∃ r2, r2 = signM L l := ⟨_, rfl⟩
          have hRR := HRR.out
          rw [← hr2] at hc2 hRR
          clear hr2 HRR c1 f1
          cases r2 with
          | bad f =>
            have hRb : R = .bad f := hRR
            subst hRb
            have HC2 := Lib.hid hc2
            clear hc2 hRR
            go_wp2_with fail
            refine HC2.out.mono ?_
            rintro e W7 ⟨t7, he⟩
            have he : e = thrown f := he
            subst he
            have T7 := Lib.hid (HQ6.out.t.trans t7)
            unfold thrown
            clear t7
            go_wp2_with fail
            exact ⟨rfl, T7.out, rfl⟩
          | ok p m =>
            obtain ⟨y, ge⟩ := p
            have HRR : Hid (R = .ok ⟨60, x, y, ge, [], []⟩ m) := Lib.hid hRR
            have HC2 := Lib.hid hc2
            clear hc2 hRR
            go_wp2_with fail
            refine HC2.out.mono ?_
            rintro e W7 ⟨t7, ⟨V, rfl, rfl⟩, h7⟩
            have Q7 := Lib.hid (HQ6.out.rdr t7 h7)
            obtain ⟨_, _, c2, c3, _, _, _, _, f2, f3, _⟩ := cells6 Q7.out.ob
            clear t7 h7
            go_wp2_with fail
            go_meet
            refine ⟨⟨60, x, y, ge, [], []⟩, _, _, m, HRR.out, Q7.out.put ((turn_set _ q 2 (.int .u8 y)).trans (turn_set _ q 3 (.bool ge))) ?_ Q7.out.pr Q7.out.dr⟩
            have := heap_set (heap_set Q7.out.ob 2 (.int .u8 y)) 3 (.bool ge)
            simpa using this
      · have hc := next_any HQ.out.rd
        obtain ⟨r, hr⟩ : ∃ r, r = nx L (i + 1) := ⟨_, rfl⟩
        have hRR : R = r.andThen fun c l => .ok ⟨29, 0, c % 64, false, [], []⟩ l := by rw [HRK.out, hr]; simp [ordK]
        rw [← hr] at hc
        cases r with
        | bad f =>
          have hRb : R = .bad f := hRR
          subst hRb
          have HC := Lib.hid hc
          clear hc hRR HRK hr
          go_wp2_with fail
          refine HC.out.mono ?_
          rintro e W5 ⟨t5, he⟩
          have he : e = thrown f := he
          subst he
          have T5 := Lib.hid (HQ.out.t.trans t5)
          unfold thrown
          clear t5
          go_wp2_with fail
          exact ⟨rfl, T5.out, rfl⟩
        | ok x l =>
          have HRR : Hid (R = .ok ⟨29, 0, x % 64, false, [], []⟩ l) := Lib.hid hRR
          have HC := Lib.hid hc
          obtain ⟨hx1, _, _⟩ := nx_ok hr.symm
          have hb := HQ.out.rd.bt (i + 1)
          rw [← hx1] at hb
          obtain ⟨y0, y1⟩ := hb
          clear hc hRR HRK hr hx1
          go_wp2_with fail
          refine HC.out.mono ?_
          rintro e W5 ⟨t5, ⟨V, rfl, rfl⟩, h5⟩
          have Q5 := Lib.hid (HQ.out.rdr t5 h5)
          obtain ⟨_, _, c2, _, _, _, _, _, f2, _⟩ := cells6 Q5.out.ob
          clear t5 h5
          obtain ⟨z, hz2⟩ : ∃ z, z = x % 64 := ⟨_, rfl⟩
          have z0 : 0 ≤ z := by omega
          have z1 : z < 64 := by omega
          have hwr : IntKind.u8.wrap z = z := by show z % 256 = z; omega
          have HV := Lib.hid (fun w => value_any x w y0 y1)
          rw [← hz2] at HRR HV
          clear hz2 y0 y1
          go_wp2_with fail
          refine (HV.out _).mono ?_
          rintro e w' ⟨rfl, rfl⟩
          go_wp2_with fail
          go_meet
          refine ⟨⟨29, 0, z, false, [], []⟩, _, _, l, HRR.out, Q5.out.put (turn_set _ q 2 (.int .u8 z)) ?_ Q5.out.pr Q5.out.dr⟩
          have := heap_set Q5.out.ob 2 (.int .u8 z)
          simpa using this
      · have hc : Calls Tryd.prog 57 #[.pointer (some ⟨b, 0, none⟩), .int .u8 40, .int .i64 1] W3 (RdP b (some ⟨g, off, none⟩) cap L W3 (pairsM L 40 1 (i + 1)) fun w' ps V => PairRow W3.heap.size w' V ps) := pairs_any HQ.out.rd 40 1 (by decide)
        obtain ⟨r, hr⟩ : ∃ r, r = pairsM L 40 1 (i + 1) := ⟨_, rfl⟩
        have hRR : R = r.andThen fun ps l => .ok ⟨40, 0, 0, false, ps, []⟩ l := by rw [HRK.out, hr]; simp [ordK]
        rw [← hr] at hc
        clear hr
        obtain ⟨q0, _⟩ := cells6 HQ.out.ob
        cases r with
        | bad f =>
          have hRb : R = .bad f := hRR
          subst hRb
          have HC := Lib.hid hc
          clear hc hRR HRK
          go_wp2_with fail
          refine HC.out.mono ?_
          rintro e W5 ⟨t5, he⟩
          have he : e = thrown f := he
          subst he
          have T5 := Lib.hid (HQ.out.t.trans t5)
          unfold thrown
          clear t5
          go_wp2_with fail
          exact ⟨rfl, T5.out, rfl⟩
        | ok ps l =>
          have HRR : Hid (R = .ok ⟨40, 0, 0, false, ps, []⟩ l) := Lib.hid hRR
          have HC := Lib.hid hc
          clear hc hRR HRK
          go_wp2_with fail
          refine HC.out.mono ?_
          rintro e W5 ⟨t5, ⟨V, rfl, hrow⟩, h5⟩
          have Q5 := Lib.hid (HQ.out.rdr t5 h5)
          have HROW := Lib.hid (hrow.base (show q + 1 ≤ W3.heap.size from lt_of_block HQ.out.ob))
          obtain ⟨pa, pc, rfl⟩ := hrow.slice
          obtain ⟨_, _, _, _, c4, _, _, _, _, _, f4, _⟩ := cells6 Q5.out.ob
          obtain ⟨pn, hpn⟩ : ∃ pn, pn = ps.length := ⟨_, rfl⟩
          rw [← hpn] at HROW ⊢
          clear t5 h5 q0 hpn hrow
          go_wp2_with fail
          go_meet
          refine ⟨⟨40, 0, 0, false, ps, []⟩, _, _, l, HRR.out, Q5.out.put (turn_set _ q 4 (.slice pa pn pc)) ?_ HROW.out Q5.out.dr⟩
          have := heap_set Q5.out.ob 4 (.slice pa pn pc)
          simpa using this
      · have hc := next_any HQ.out.rd
        obtain ⟨q0, _⟩ := cells6 HQ.out.ob
        have Q0 : Hid (W3.drew.cell? ⟨q, 0, none⟩ = some (.int .u8 41)) := Lib.hid q0
        have HQD := Lib.hid (HQ.out.below (Below.drew (Below.refl _ W3)))
        obtain ⟨r, hr⟩ : ∃ r, r = nx L (i + 1) := ⟨_, rfl⟩
        have hRR : R = r.andThen fun c l => (pairsM L 41 c.toNat l).andThen fun ps m => .ok ⟨41, 0, 0, false, ps, []⟩ m := by rw [HRK.out, hr]; simp [ordK]
        have hc := next_any HQD.out.rd
        rw [← hr] at hc
        cases r with
        | bad f =>
          have hRb : R = .bad f := hRR
          subst hRb
          have HC := Lib.hid hc
          clear hc hRR HRK hr
          go_upto_region 22 with fail
          refine wp_region_held_drew (S := fun Z => Z.cell? ⟨q, 0, none⟩ = some (.int .u8 41)) (by kernel_rfl) Q0.out (fun hHeld => ?_)
          refine wpAnyH_take (i := 0) (oi := { dst := some 69, op := Op.move (Operand.tmp 0), type := 103, pos := "parse.go:78", after := #[], guard := none }) (v := ?_) rfl (by kernel_rfl) (by kernel_rfl) (by kernel_rfl) (fun _ _ _ h => h) (Or.inl ⟨by rfl, ?_⟩) (by assumption) ?_
          rotate_left
          focus (intro w hSw; (try dsimp only at hSw); go_simp; try (with_reducible rfl))
          try simp only [Act.put, List.setIfInBounds_toArray, List.set_cons_zero, List.set_cons_succ]
          refine wpAnyH_take (i := 1) (oi := { dst := some 70, op := Op.fieldAddr 92 (Operand.tmp 3) 0, type := 0, pos := "parse.go:78", after := #[], guard := none }) (v := ?_) rfl (by kernel_rfl) (by kernel_rfl) (by kernel_rfl) (fun _ _ _ h => h) (Or.inl ⟨by rfl, ?_⟩) (by assumption) ?_
          rotate_left
          focus (intro w hSw; (try dsimp only at hSw); go_simp; try (with_reducible rfl))
          try simp only [Act.put, List.setIfInBounds_toArray, List.set_cons_zero, List.set_cons_succ]
          refine wpAnyH_take (i := 2) (oi := { dst := some 71, op := Op.load 5 (Operand.tmp 70), type := 5, pos := "parse.go:78", after := #[{ on := 1, ground := Ground.data }], guard := none }) (v := ?_) rfl (by kernel_rfl) (by kernel_rfl) (by kernel_rfl) (fun _ _ _ h => h) (Or.inl ⟨by rfl, ?_⟩) (by assumption) ?_
          rotate_left
          focus (intro w hSw; (try dsimp only at hSw); go_simp; try (with_reducible rfl))
          try simp only [Act.put, List.setIfInBounds_toArray, List.set_cons_zero, List.set_cons_succ]
          refine wpAnyH_take (i := 3) (oi := { dst := some 72, op := Op.move (Operand.tmp 0), type := 103, pos := "parse.go:78", after := #[], guard := none }) (v := ?_) rfl (by kernel_rfl) (by kernel_rfl) (by kernel_rfl) (fun _ _ _ h => h) (Or.inl ⟨by rfl, ?_⟩) (by assumption) ?_
          rotate_left
          focus (intro w hSw; (try dsimp only at hSw); go_simp; try (with_reducible rfl))
          try simp only [Act.put, List.setIfInBounds_toArray, List.set_cons_zero, List.set_cons_succ]
          refine wpAnyH_ready (rs := [4]) (by kernel_rfl) (by simp) (AllReadyH.cons (o := { dst := some 73, op := Op.call { callee := Callee.value (Operand.func 52), args := #[Operand.tmp 72], argTypes := #[103] }, type := 5, pos := "parse.go:78", after := #[{ on := 3, ground := Ground.data }], guard := none }) rfl (fun K hK => ?_) AllReadyH.nil)
          go_simp
          go_at_call 52
          refine HC.out.mono ?_
          rintro e W5 ⟨t5, he⟩
          have he : e = thrown f := he
          subst he
          have T5 := Lib.hid (HQD.out.t.trans t5)
          unfold thrown
          exact ⟨rfl, T5.out, rfl⟩
        | ok x l =>
          obtain ⟨hx1, _, _⟩ := nx_ok hr.symm
          have hb := HQ.out.rd.bt (i + 1)
          rw [← hx1] at hb
          obtain ⟨y0, y1⟩ := hb
          have HC := Lib.hid hc
          have hRR : R = (pairsM L 41 x.toNat l).andThen fun ps m => .ok ⟨41, 0, 0, false, ps, []⟩ m := hRR
          clear hc HRK hr hx1
          have HCP : Hid (∀ W : World, Rdr W b (some ⟨g, off, none⟩) cap L l → Calls Tryd.prog 57 #[.pointer (some ⟨b, 0, none⟩), .int .u8 41, .int .i64 (IntKind.i64.wrap x)] W (RdP b (some ⟨g, off, none⟩) cap L W (pairsM L 41 x.toNat l) fun w' ps V => PairRow W.heap.size w' V ps)) := Lib.hid fun W h => by
            have := pairs_any h 41 x.toNat (by omega)
            rw [Int.toNat_of_nonneg y0] at this
            rw [IntWalk.i64_in x (by omega)]
            exact this
          obtain ⟨r2, hr2⟩ : ∃ r2, r2 = pairsM L 41 x.toNat l := ⟨_, rfl⟩
          rw [← hr2] at hRR HCP
          clear hr2
          cases r2 with
          | bad f =>
            have hRb : R = .bad f := hRR
            subst hRb
            clear hRR
            go_upto_region 22 with fail
            refine wp_region_held_drew (S := fun Z => Z.cell? ⟨q, 0, none⟩ = some (.int .u8 41)) (by kernel_rfl) Q0.out (fun hHeld => ?_)
            refine wpAnyH_take (i := 0) (oi := { dst := some 69, op := Op.move (Operand.tmp 0), type := 103, pos := "parse.go:78", after := #[], guard := none }) (v := ?_) rfl (by kernel_rfl) (by kernel_rfl) (by kernel_rfl) (fun _ _ _ h => h) (Or.inl ⟨by rfl, ?_⟩) (by assumption) ?_
            rotate_left
            focus (intro w hSw; (try dsimp only at hSw); go_simp; try (with_reducible rfl))
            try simp only [Act.put, List.setIfInBounds_toArray, List.set_cons_zero, List.set_cons_succ]
            refine wpAnyH_take (i := 1) (oi := { dst := some 70, op := Op.fieldAddr 92 (Operand.tmp 3) 0, type := 0, pos := "parse.go:78", after := #[], guard := none }) (v := ?_) rfl (by kernel_rfl) (by kernel_rfl) (by kernel_rfl) (fun _ _ _ h => h) (Or.inl ⟨by rfl, ?_⟩) (by assumption) ?_
            rotate_left
            focus (intro w hSw; (try dsimp only at hSw); go_simp; try (with_reducible rfl))
            try simp only [Act.put, List.setIfInBounds_toArray, List.set_cons_zero, List.set_cons_succ]
            refine wpAnyH_take (i := 2) (oi := { dst := some 71, op := Op.load 5 (Operand.tmp 70), type := 5, pos := "parse.go:78", after := #[{ on := 1, ground := Ground.data }], guard := none }) (v := ?_) rfl (by kernel_rfl) (by kernel_rfl) (by kernel_rfl) (fun _ _ _ h => h) (Or.inl ⟨by rfl, ?_⟩) (by assumption) ?_
            rotate_left
            focus (intro w hSw; (try dsimp only at hSw); go_simp; try (with_reducible rfl))
            try simp only [Act.put, List.setIfInBounds_toArray, List.set_cons_zero, List.set_cons_succ]
            refine wpAnyH_take (i := 3) (oi := { dst := some 72, op := Op.move (Operand.tmp 0), type := 103, pos := "parse.go:78", after := #[], guard := none }) (v := ?_) rfl (by kernel_rfl) (by kernel_rfl) (by kernel_rfl) (fun _ _ _ h => h) (Or.inl ⟨by rfl, ?_⟩) (by assumption) ?_
            rotate_left
            focus (intro w hSw; (try dsimp only at hSw); go_simp; try (with_reducible rfl))
            try simp only [Act.put, List.setIfInBounds_toArray, List.set_cons_zero, List.set_cons_succ]
            refine wpAnyH_ready (rs := [4]) (by kernel_rfl) (by simp) (AllReadyH.cons (o := { dst := some 73, op := Op.call { callee := Callee.value (Operand.func 52), args := #[Operand.tmp 72], argTypes := #[103] }, type := 5, pos := "parse.go:78", after := #[{ on := 3, ground := Ground.data }], guard := none }) rfl (fun K hK => ?_) AllReadyH.nil)
            go_simp
            go_at_call 52
            refine HC.out.mono ?_
            rintro e W5 ⟨t5, ⟨V, rfl, rfl⟩, h5⟩
            have Q5 := Lib.hid (HQD.out.rdr t5 h5)
            have C5 : Hid (W5.cell? ⟨q, 0, none⟩ = some (.int .u8 41)) := Lib.hid (cells6 Q5.out.ob).1
            clear t5 h5
            go_wp2_with fail
            refine hK.out _ _ (C5.out) (fun hHeld => ?_)
            clear hK K
            try simp only [Act.put, List.setIfInBounds_toArray, List.set_cons_zero, List.set_cons_succ]
            refine wpAnyH_take (i := 5) (oi := { dst := some 74, op := Op.convert 5 3 (Operand.tmp 73), type := 3, pos := "parse.go:78", after := #[{ on := 4, ground := Ground.data }], guard := none }) (v := ?_) rfl (by kernel_rfl) (by kernel_rfl) (by kernel_rfl) (fun _ _ _ h => h) (Or.inl ⟨by rfl, ?_⟩) (by assumption) ?_
            rotate_left
            focus (intro w hSw; (try dsimp only at hSw); go_simp; try (with_reducible rfl))
            try simp only [Act.put, List.setIfInBounds_toArray, List.set_cons_zero, List.set_cons_succ]
            refine wpAnyH_ready (rs := [6]) (by kernel_rfl) (by simp) (AllReadyH.cons (o := { dst := some 75, op := Op.call { callee := Callee.value (Operand.func 57), args := #[Operand.tmp 69, Operand.tmp 71, Operand.tmp 74], argTypes := #[103, 5, 3] }, type := 90, pos := "parse.go:78", after := #[{ on := 0, ground := Ground.data }, { on := 2, ground := Ground.data }, { on := 5, ground := Ground.data }, { on := 4, ground := Ground.chain }], guard := none }) rfl (fun K hK => ?_) AllReadyH.nil)
            go_simp
            go_at_call 57
            refine (HCP.out W5 Q5.out.rd).mono ?_
            rintro e W7 ⟨t7, he⟩
            have he : e = thrown f := he
            subst he
            have T7 := Lib.hid (Q5.out.t.trans t7)
            unfold thrown
            exact ⟨rfl, T7.out, rfl⟩
          | ok ps m =>
            have HRR : Hid (R = .ok ⟨41, 0, 0, false, ps, []⟩ m) := Lib.hid hRR
            clear hRR
            go_upto_region 22 with fail
            refine wp_region_held_drew (S := fun Z => Z.cell? ⟨q, 0, none⟩ = some (.int .u8 41)) (by kernel_rfl) Q0.out (fun hHeld => ?_)
            refine wpAnyH_take (i := 0) (oi := { dst := some 69, op := Op.move (Operand.tmp 0), type := 103, pos := "parse.go:78", after := #[], guard := none }) (v := ?_) rfl (by kernel_rfl) (by kernel_rfl) (by kernel_rfl) (fun _ _ _ h => h) (Or.inl ⟨by rfl, ?_⟩) (by assumption) ?_
            rotate_left
            focus (intro w hSw; (try dsimp only at hSw); go_simp; try (with_reducible rfl))
            try simp only [Act.put, List.setIfInBounds_toArray, List.set_cons_zero, List.set_cons_succ]
            refine wpAnyH_take (i := 1) (oi := { dst := some 70, op := Op.fieldAddr 92 (Operand.tmp 3) 0, type := 0, pos := "parse.go:78", after := #[], guard := none }) (v := ?_) rfl (by kernel_rfl) (by kernel_rfl) (by kernel_rfl) (fun _ _ _ h => h) (Or.inl ⟨by rfl, ?_⟩) (by assumption) ?_
            rotate_left
            focus (intro w hSw; (try dsimp only at hSw); go_simp; try (with_reducible rfl))
            try simp only [Act.put, List.setIfInBounds_toArray, List.set_cons_zero, List.set_cons_succ]
            refine wpAnyH_take (i := 2) (oi := { dst := some 71, op := Op.load 5 (Operand.tmp 70), type := 5, pos := "parse.go:78", after := #[{ on := 1, ground := Ground.data }], guard := none }) (v := ?_) rfl (by kernel_rfl) (by kernel_rfl) (by kernel_rfl) (fun _ _ _ h => h) (Or.inl ⟨by rfl, ?_⟩) (by assumption) ?_
            rotate_left
            focus (intro w hSw; (try dsimp only at hSw); go_simp; try (with_reducible rfl))
            try simp only [Act.put, List.setIfInBounds_toArray, List.set_cons_zero, List.set_cons_succ]
            refine wpAnyH_take (i := 3) (oi := { dst := some 72, op := Op.move (Operand.tmp 0), type := 103, pos := "parse.go:78", after := #[], guard := none }) (v := ?_) rfl (by kernel_rfl) (by kernel_rfl) (by kernel_rfl) (fun _ _ _ h => h) (Or.inl ⟨by rfl, ?_⟩) (by assumption) ?_
            rotate_left
            focus (intro w hSw; (try dsimp only at hSw); go_simp; try (with_reducible rfl))
            try simp only [Act.put, List.setIfInBounds_toArray, List.set_cons_zero, List.set_cons_succ]
            refine wpAnyH_ready (rs := [4]) (by kernel_rfl) (by simp) (AllReadyH.cons (o := { dst := some 73, op := Op.call { callee := Callee.value (Operand.func 52), args := #[Operand.tmp 72], argTypes := #[103] }, type := 5, pos := "parse.go:78", after := #[{ on := 3, ground := Ground.data }], guard := none }) rfl (fun K hK => ?_) AllReadyH.nil)
            go_simp
            go_at_call 52
            refine HC.out.mono ?_
            rintro e W5 ⟨t5, ⟨V, rfl, rfl⟩, h5⟩
            have Q5 := Lib.hid (HQD.out.rdr t5 h5)
            have C5 : Hid (W5.cell? ⟨q, 0, none⟩ = some (.int .u8 41)) := Lib.hid (cells6 Q5.out.ob).1
            clear t5 h5
            go_wp2_with fail
            refine hK.out _ _ (C5.out) (fun hHeld => ?_)
            clear hK K
            try simp only [Act.put, List.setIfInBounds_toArray, List.set_cons_zero, List.set_cons_succ]
            refine wpAnyH_take (i := 5) (oi := { dst := some 74, op := Op.convert 5 3 (Operand.tmp 73), type := 3, pos := "parse.go:78", after := #[{ on := 4, ground := Ground.data }], guard := none }) (v := ?_) rfl (by kernel_rfl) (by kernel_rfl) (by kernel_rfl) (fun _ _ _ h => h) (Or.inl ⟨by rfl, ?_⟩) (by assumption) ?_
            rotate_left
            focus (intro w hSw; (try dsimp only at hSw); go_simp; try (with_reducible rfl))
            try simp only [Act.put, List.setIfInBounds_toArray, List.set_cons_zero, List.set_cons_succ]
            refine wpAnyH_ready (rs := [6]) (by kernel_rfl) (by simp) (AllReadyH.cons (o := { dst := some 75, op := Op.call { callee := Callee.value (Operand.func 57), args := #[Operand.tmp 69, Operand.tmp 71, Operand.tmp 74], argTypes := #[103, 5, 3] }, type := 90, pos := "parse.go:78", after := #[{ on := 0, ground := Ground.data }, { on := 2, ground := Ground.data }, { on := 5, ground := Ground.data }, { on := 4, ground := Ground.chain }], guard := none }) rfl (fun K hK => ?_) AllReadyH.nil)
            go_simp
            go_at_call 57
            refine (HCP.out W5 Q5.out.rd).mono ?_
            rintro e W7 ⟨t7, ⟨V, rfl, hrow⟩, h7⟩
            have Q7 := Lib.hid (Q5.out.rdr t7 h7)
            have HROW := Lib.hid (hrow.base (show q + 1 ≤ W5.heap.size from lt_of_block Q5.out.ob))
            obtain ⟨pa, pc, rfl⟩ := hrow.slice
            obtain ⟨c0, _, _, _, c4, _, _, _, _, _, f4, _⟩ := cells6 Q7.out.ob
            have C7 := Lib.hid c0
            obtain ⟨pn, hpn⟩ : ∃ pn, pn = ps.length := ⟨_, rfl⟩
            rw [← hpn] at HROW ⊢
            clear t7 h7 hpn hrow
            go_wp2_with fail
            refine hK.out _ _ (C7.out) (fun hHeld => ?_)
            clear hK K
            try simp only [Act.put, List.setIfInBounds_toArray, List.set_cons_zero, List.set_cons_succ]
            refine wpAnyH_take (i := 7) (oi := { dst := some 76, op := Op.fieldAddr 92 (Operand.tmp 3) 4, type := 0, pos := "parse.go:78", after := #[{ on := 0, ground := Ground.phase }, { on := 1, ground := Ground.phase }, { on := 2, ground := Ground.phase }, { on := 3, ground := Ground.phase }, { on := 4, ground := Ground.phase }, { on := 5, ground := Ground.phase }, { on := 6, ground := Ground.phase }], guard := none }) (v := ?_) rfl (by kernel_rfl) (by kernel_rfl) (by kernel_rfl) (fun _ _ _ h => h) (Or.inl ⟨by rfl, ?_⟩) (by assumption) ?_
            rotate_left
            focus (intro w hSw; (try dsimp only at hSw); go_simp; try (with_reducible rfl))
            try simp only [Act.put, List.setIfInBounds_toArray, List.set_cons_zero, List.set_cons_succ]
            refine wpAnyH_ready (rs := [8]) (by kernel_rfl) (by simp) (AllReadyH.cons (o := { dst := none, op := Op.store 90 (Operand.tmp 76) (Operand.tmp 75), type := 0, pos := "parse.go:78", after := #[{ on := 7, ground := Ground.data }, { on := 6, ground := Ground.data }, { on := 6, ground := Ground.chain }, { on := 0, ground := Ground.phase }, { on := 1, ground := Ground.phase }, { on := 2, ground := Ground.phase }, { on := 3, ground := Ground.phase }, { on := 4, ground := Ground.phase }, { on := 5, ground := Ground.phase }, { on := 6, ground := Ground.phase }], guard := none }) rfl (fun K hK => ?_) AllReadyH.nil)
            go_simp
            go_wp2_with fail
            refine hK.out _ _ (by first | exact C7.out | (simp [World.cell?_setCell_other]; exact C7.out)) (fun hHeld => ?_)
            clear hK K
            try simp only [Act.put, List.setIfInBounds_toArray, List.set_cons_zero, List.set_cons_succ]
            refine wpAnyH_done (by kernel_rfl) ?_ _
            go_wp2_with fail
            go_meet
            refine ⟨⟨41, 0, 0, false, ps, []⟩, _, _, m, HRR.out, Q7.out.put (turn_set _ q 4 (.slice pa pn pc)) ?_ HROW.out Q7.out.dr⟩
            have := heap_set Q7.out.ob 4 (.slice pa pn pc)
            simpa using this
      · have hc := next_any HQ.out.rd
        obtain ⟨q0, _⟩ := cells6 HQ.out.ob
        have Q0 : Hid (W3.drew.cell? ⟨q, 0, none⟩ = some (.int .u8 44)) := Lib.hid q0
        have HQD := Lib.hid (HQ.out.below (Below.drew (Below.refl _ W3)))
        obtain ⟨r, hr⟩ : ∃ r, r = nx L (i + 1) := ⟨_, rfl⟩
        have hRR : R = r.andThen fun c l => (pairsM L 44 c.toNat l).andThen fun ps m => .ok ⟨44, 0, 0, false, ps, []⟩ m := by rw [HRK.out, hr]; simp [ordK]
        have hc := next_any HQD.out.rd
        rw [← hr] at hc
        cases r with
        | bad f =>
          have hRb : R = .bad f := hRR
          subst hRb
          have HC := Lib.hid hc
          clear hc hRR HRK hr
          go_upto_region 22 with fail
          refine wp_region_held_drew (S := fun Z => Z.cell? ⟨q, 0, none⟩ = some (.int .u8 44)) (by kernel_rfl) Q0.out (fun hHeld => ?_)
          refine wpAnyH_take (i := 0) (oi := { dst := some 69, op := Op.move (Operand.tmp 0), type := 103, pos := "parse.go:78", after := #[], guard := none }) (v := ?_) rfl (by kernel_rfl) (by kernel_rfl) (by kernel_rfl) (fun _ _ _ h => h) (Or.inl ⟨by rfl, ?_⟩) (by assumption) ?_
          rotate_left
          focus (intro w hSw; (try dsimp only at hSw); go_simp; try (with_reducible rfl))
          try simp only [Act.put, List.setIfInBounds_toArray, List.set_cons_zero, List.set_cons_succ]
          refine wpAnyH_take (i := 1) (oi := { dst := some 70, op := Op.fieldAddr 92 (Operand.tmp 3) 0, type := 0, pos := "parse.go:78", after := #[], guard := none }) (v := ?_) rfl (by kernel_rfl) (by kernel_rfl) (by kernel_rfl) (fun _ _ _ h => h) (Or.inl ⟨by rfl, ?_⟩) (by assumption) ?_
          rotate_left
          focus (intro w hSw; (try dsimp only at hSw); go_simp; try (with_reducible rfl))
          try simp only [Act.put, List.setIfInBounds_toArray, List.set_cons_zero, List.set_cons_succ]
          refine wpAnyH_take (i := 2) (oi := { dst := some 71, op := Op.load 5 (Operand.tmp 70), type := 5, pos := "parse.go:78", after := #[{ on := 1, ground := Ground.data }], guard := none }) (v := ?_) rfl (by kernel_rfl) (by kernel_rfl) (by kernel_rfl) (fun _ _ _ h => h) (Or.inl ⟨by rfl, ?_⟩) (by assumption) ?_
          rotate_left
          focus (intro w hSw; (try dsimp only at hSw); go_simp; try (with_reducible rfl))
          try simp only [Act.put, List.setIfInBounds_toArray, List.set_cons_zero, List.set_cons_succ]
          refine wpAnyH_take (i := 3) (oi := { dst := some 72, op := Op.move (Operand.tmp 0), type := 103, pos := "parse.go:78", after := #[], guard := none }) (v := ?_) rfl (by kernel_rfl) (by kernel_rfl) (by kernel_rfl) (fun _ _ _ h => h) (Or.inl ⟨by rfl, ?_⟩) (by assumption) ?_
          rotate_left
          focus (intro w hSw; (try dsimp only at hSw); go_simp; try (with_reducible rfl))
          try simp only [Act.put, List.setIfInBounds_toArray, List.set_cons_zero, List.set_cons_succ]
          refine wpAnyH_ready (rs := [4]) (by kernel_rfl) (by simp) (AllReadyH.cons (o := { dst := some 73, op := Op.call { callee := Callee.value (Operand.func 52), args := #[Operand.tmp 72], argTypes := #[103] }, type := 5, pos := "parse.go:78", after := #[{ on := 3, ground := Ground.data }], guard := none }) rfl (fun K hK => ?_) AllReadyH.nil)
          go_simp
          go_at_call 52
          refine HC.out.mono ?_
          rintro e W5 ⟨t5, he⟩
          have he : e = thrown f := he
          subst he
          have T5 := Lib.hid (HQD.out.t.trans t5)
          unfold thrown
          exact ⟨rfl, T5.out, rfl⟩
        | ok x l =>
          obtain ⟨hx1, _, _⟩ := nx_ok hr.symm
          have hb := HQ.out.rd.bt (i + 1)
          rw [← hx1] at hb
          obtain ⟨y0, y1⟩ := hb
          have HC := Lib.hid hc
          have hRR : R = (pairsM L 44 x.toNat l).andThen fun ps m => .ok ⟨44, 0, 0, false, ps, []⟩ m := hRR
          clear hc HRK hr hx1
          have HCP : Hid (∀ W : World, Rdr W b (some ⟨g, off, none⟩) cap L l → Calls Tryd.prog 57 #[.pointer (some ⟨b, 0, none⟩), .int .u8 44, .int .i64 (IntKind.i64.wrap x)] W (RdP b (some ⟨g, off, none⟩) cap L W (pairsM L 44 x.toNat l) fun w' ps V => PairRow W.heap.size w' V ps)) := Lib.hid fun W h => by
            have := pairs_any h 44 x.toNat (by omega)
            rw [Int.toNat_of_nonneg y0] at this
            rw [IntWalk.i64_in x (by omega)]
            exact this
          obtain ⟨r2, hr2⟩ : ∃ r2, r2 = pairsM L 44 x.toNat l := ⟨_, rfl⟩
          rw [← hr2] at hRR HCP
          clear hr2
          cases r2 with
          | bad f =>
            have hRb : R = .bad f := hRR
            subst hRb
            clear hRR
            go_upto_region 22 with fail
            refine wp_region_held_drew (S := fun Z => Z.cell? ⟨q, 0, none⟩ = some (.int .u8 44)) (by kernel_rfl) Q0.out (fun hHeld => ?_)
            refine wpAnyH_take (i := 0) (oi := { dst := some 69, op := Op.move (Operand.tmp 0), type := 103, pos := "parse.go:78", after := #[], guard := none }) (v := ?_) rfl (by kernel_rfl) (by kernel_rfl) (by kernel_rfl) (fun _ _ _ h => h) (Or.inl ⟨by rfl, ?_⟩) (by assumption) ?_
            rotate_left
            focus (intro w hSw; (try dsimp only at hSw); go_simp; try (with_reducible rfl))
            try simp only [Act.put, List.setIfInBounds_toArray, List.set_cons_zero, List.set_cons_succ]
            refine wpAnyH_take (i := 1) (oi := { dst := some 70, op := Op.fieldAddr 92 (Operand.tmp 3) 0, type := 0, pos := "parse.go:78", after := #[], guard := none }) (v := ?_) rfl (by kernel_rfl) (by kernel_rfl) (by kernel_rfl) (fun _ _ _ h => h) (Or.inl ⟨by rfl, ?_⟩) (by assumption) ?_
            rotate_left
            focus (intro w hSw; (try dsimp only at hSw); go_simp; try (with_reducible rfl))
            try simp only [Act.put, List.setIfInBounds_toArray, List.set_cons_zero, List.set_cons_succ]
            refine wpAnyH_take (i := 2) (oi := { dst := some 71, op := Op.load 5 (Operand.tmp 70), type := 5, pos := "parse.go:78", after := #[{ on := 1, ground := Ground.data }], guard := none }) (v := ?_) rfl (by kernel_rfl) (by kernel_rfl) (by kernel_rfl) (fun _ _ _ h => h) (Or.inl ⟨by rfl, ?_⟩) (by assumption) ?_
            rotate_left
            focus (intro w hSw; (try dsimp only at hSw); go_simp; try (with_reducible rfl))
            try simp only [Act.put, List.setIfInBounds_toArray, List.set_cons_zero, List.set_cons_succ]
            refine wpAnyH_take (i := 3) (oi := { dst := some 72, op := Op.move (Operand.tmp 0), type := 103, pos := "parse.go:78", after := #[], guard := none }) (v := ?_) rfl (by kernel_rfl) (by kernel_rfl) (by kernel_rfl) (fun _ _ _ h => h) (Or.inl ⟨by rfl, ?_⟩) (by assumption) ?_
            rotate_left
            focus (intro w hSw; (try dsimp only at hSw); go_simp; try (with_reducible rfl))
            try simp only [Act.put, List.setIfInBounds_toArray, List.set_cons_zero, List.set_cons_succ]
            refine wpAnyH_ready (rs := [4]) (by kernel_rfl) (by simp) (AllReadyH.cons (o := { dst := some 73, op := Op.call { callee := Callee.value (Operand.func 52), args := #[Operand.tmp 72], argTypes := #[103] }, type := 5, pos := "parse.go:78", after := #[{ on := 3, ground := Ground.data }], guard := none }) rfl (fun K hK => ?_) AllReadyH.nil)
            go_simp
            go_at_call 52
            refine HC.out.mono ?_
            rintro e W5 ⟨t5, ⟨V, rfl, rfl⟩, h5⟩
            have Q5 := Lib.hid (HQD.out.rdr t5 h5)
            have C5 : Hid (W5.cell? ⟨q, 0, none⟩ = some (.int .u8 44)) := Lib.hid (cells6 Q5.out.ob).1
            clear t5 h5
            go_wp2_with fail
            refine hK.out _ _ (C5.out) (fun hHeld => ?_)
            clear hK K
            try simp only [Act.put, List.setIfInBounds_toArray, List.set_cons_zero, List.set_cons_succ]
            refine wpAnyH_take (i := 5) (oi := { dst := some 74, op := Op.convert 5 3 (Operand.tmp 73), type := 3, pos := "parse.go:78", after := #[{ on := 4, ground := Ground.data }], guard := none }) (v := ?_) rfl (by kernel_rfl) (by kernel_rfl) (by kernel_rfl) (fun _ _ _ h => h) (Or.inl ⟨by rfl, ?_⟩) (by assumption) ?_
            rotate_left
            focus (intro w hSw; (try dsimp only at hSw); go_simp; try (with_reducible rfl))
            try simp only [Act.put, List.setIfInBounds_toArray, List.set_cons_zero, List.set_cons_succ]
            refine wpAnyH_ready (rs := [6]) (by kernel_rfl) (by simp) (AllReadyH.cons (o := { dst := some 75, op := Op.call { callee := Callee.value (Operand.func 57), args := #[Operand.tmp 69, Operand.tmp 71, Operand.tmp 74], argTypes := #[103, 5, 3] }, type := 90, pos := "parse.go:78", after := #[{ on := 0, ground := Ground.data }, { on := 2, ground := Ground.data }, { on := 5, ground := Ground.data }, { on := 4, ground := Ground.chain }], guard := none }) rfl (fun K hK => ?_) AllReadyH.nil)
            go_simp
            go_at_call 57
            refine (HCP.out W5 Q5.out.rd).mono ?_
            rintro e W7 ⟨t7, he⟩
            have he : e = thrown f := he
            subst he
            have T7 := Lib.hid (Q5.out.t.trans t7)
            unfold thrown
            exact ⟨rfl, T7.out, rfl⟩
          | ok ps m =>
            have HRR : Hid (R = .ok ⟨44, 0, 0, false, ps, []⟩ m) := Lib.hid hRR
            clear hRR
            go_upto_region 22 with fail
            refine wp_region_held_drew (S := fun Z => Z.cell? ⟨q, 0, none⟩ = some (.int .u8 44)) (by kernel_rfl) Q0.out (fun hHeld => ?_)
            refine wpAnyH_take (i := 0) (oi := { dst := some 69, op := Op.move (Operand.tmp 0), type := 103, pos := "parse.go:78", after := #[], guard := none }) (v := ?_) rfl (by kernel_rfl) (by kernel_rfl) (by kernel_rfl) (fun _ _ _ h => h) (Or.inl ⟨by rfl, ?_⟩) (by assumption) ?_
            rotate_left
            focus (intro w hSw; (try dsimp only at hSw); go_simp; try (with_reducible rfl))
            try simp only [Act.put, List.setIfInBounds_toArray, List.set_cons_zero, List.set_cons_succ]
            refine wpAnyH_take (i := 1) (oi := { dst := some 70, op := Op.fieldAddr 92 (Operand.tmp 3) 0, type := 0, pos := "parse.go:78", after := #[], guard := none }) (v := ?_) rfl (by kernel_rfl) (by kernel_rfl) (by kernel_rfl) (fun _ _ _ h => h) (Or.inl ⟨by rfl, ?_⟩) (by assumption) ?_
            rotate_left
            focus (intro w hSw; (try dsimp only at hSw); go_simp; try (with_reducible rfl))
            try simp only [Act.put, List.setIfInBounds_toArray, List.set_cons_zero, List.set_cons_succ]
            refine wpAnyH_take (i := 2) (oi := { dst := some 71, op := Op.load 5 (Operand.tmp 70), type := 5, pos := "parse.go:78", after := #[{ on := 1, ground := Ground.data }], guard := none }) (v := ?_) rfl (by kernel_rfl) (by kernel_rfl) (by kernel_rfl) (fun _ _ _ h => h) (Or.inl ⟨by rfl, ?_⟩) (by assumption) ?_
            rotate_left
            focus (intro w hSw; (try dsimp only at hSw); go_simp; try (with_reducible rfl))
            try simp only [Act.put, List.setIfInBounds_toArray, List.set_cons_zero, List.set_cons_succ]
            refine wpAnyH_take (i := 3) (oi := { dst := some 72, op := Op.move (Operand.tmp 0), type := 103, pos := "parse.go:78", after := #[], guard := none }) (v := ?_) rfl (by kernel_rfl) (by kernel_rfl) (by kernel_rfl) (fun _ _ _ h => h) (Or.inl ⟨by rfl, ?_⟩) (by assumption) ?_
            rotate_left
            focus (intro w hSw; (try dsimp only at hSw); go_simp; try (with_reducible rfl))
            try simp only [Act.put, List.setIfInBounds_toArray, List.set_cons_zero, List.set_cons_succ]
            refine wpAnyH_ready (rs := [4]) (by kernel_rfl) (by simp) (AllReadyH.cons (o := { dst := some 73, op := Op.call { callee := Callee.value (Operand.func 52), args := #[Operand.tmp 72], argTypes := #[103] }, type := 5, pos := "parse.go:78", after := #[{ on := 3, ground := Ground.data }], guard := none }) rfl (fun K hK => ?_) AllReadyH.nil)
            go_simp
            go_at_call 52
            refine HC.out.mono ?_
            rintro e W5 ⟨t5, ⟨V, rfl, rfl⟩, h5⟩
            have Q5 := Lib.hid (HQD.out.rdr t5 h5)
            have C5 : Hid (W5.cell? ⟨q, 0, none⟩ = some (.int .u8 44)) := Lib.hid (cells6 Q5.out.ob).1
            clear t5 h5
            go_wp2_with fail
            refine hK.out _ _ (C5.out) (fun hHeld => ?_)
            clear hK K
            try simp only [Act.put, List.setIfInBounds_toArray, List.set_cons_zero, List.set_cons_succ]
            refine wpAnyH_take (i := 5) (oi := { dst := some 74, op := Op.convert 5 3 (Operand.tmp 73), type := 3, pos := "parse.go:78", after := #[{ on := 4, ground := Ground.data }], guard := none }) (v := ?_) rfl (by kernel_rfl) (by kernel_rfl) (by kernel_rfl) (fun _ _ _ h => h) (Or.inl ⟨by rfl, ?_⟩) (by assumption) ?_
            rotate_left
            focus (intro w hSw; (try dsimp only at hSw); go_simp; try (with_reducible rfl))
            try simp only [Act.put, List.setIfInBounds_toArray, List.set_cons_zero, List.set_cons_succ]
            refine wpAnyH_ready (rs := [6]) (by kernel_rfl) (by simp) (AllReadyH.cons (o := { dst := some 75, op := Op.call { callee := Callee.value (Operand.func 57), args := #[Operand.tmp 69, Operand.tmp 71, Operand.tmp 74], argTypes := #[103, 5, 3] }, type := 90, pos := "parse.go:78", after := #[{ on := 0, ground := Ground.data }, { on := 2, ground := Ground.data }, { on := 5, ground := Ground.data }, { on := 4, ground := Ground.chain }], guard := none }) rfl (fun K hK => ?_) AllReadyH.nil)
            go_simp
            go_at_call 57
            refine (HCP.out W5 Q5.out.rd).mono ?_
            rintro e W7 ⟨t7, ⟨V, rfl, hrow⟩, h7⟩
            have Q7 := Lib.hid (Q5.out.rdr t7 h7)
            have HROW := Lib.hid (hrow.base (show q + 1 ≤ W5.heap.size from lt_of_block Q5.out.ob))
            obtain ⟨pa, pc, rfl⟩ := hrow.slice
            obtain ⟨c0, _, _, _, c4, _, _, _, _, _, f4, _⟩ := cells6 Q7.out.ob
            have C7 := Lib.hid c0
            obtain ⟨pn, hpn⟩ : ∃ pn, pn = ps.length := ⟨_, rfl⟩
            rw [← hpn] at HROW ⊢
            clear t7 h7 hpn hrow
            go_wp2_with fail
            refine hK.out _ _ (C7.out) (fun hHeld => ?_)
            clear hK K
            try simp only [Act.put, List.setIfInBounds_toArray, List.set_cons_zero, List.set_cons_succ]
            refine wpAnyH_take (i := 7) (oi := { dst := some 76, op := Op.fieldAddr 92 (Operand.tmp 3) 4, type := 0, pos := "parse.go:78", after := #[{ on := 0, ground := Ground.phase }, { on := 1, ground := Ground.phase }, { on := 2, ground := Ground.phase }, { on := 3, ground := Ground.phase }, { on := 4, ground := Ground.phase }, { on := 5, ground := Ground.phase }, { on := 6, ground := Ground.phase }], guard := none }) (v := ?_) rfl (by kernel_rfl) (by kernel_rfl) (by kernel_rfl) (fun _ _ _ h => h) (Or.inl ⟨by rfl, ?_⟩) (by assumption) ?_
            rotate_left
            focus (intro w hSw; (try dsimp only at hSw); go_simp; try (with_reducible rfl))
            try simp only [Act.put, List.setIfInBounds_toArray, List.set_cons_zero, List.set_cons_succ]
            refine wpAnyH_ready (rs := [8]) (by kernel_rfl) (by simp) (AllReadyH.cons (o := { dst := none, op := Op.store 90 (Operand.tmp 76) (Operand.tmp 75), type := 0, pos := "parse.go:78", after := #[{ on := 7, ground := Ground.data }, { on := 6, ground := Ground.data }, { on := 6, ground := Ground.chain }, { on := 0, ground := Ground.phase }, { on := 1, ground := Ground.phase }, { on := 2, ground := Ground.phase }, { on := 3, ground := Ground.phase }, { on := 4, ground := Ground.phase }, { on := 5, ground := Ground.phase }, { on := 6, ground := Ground.phase }], guard := none }) rfl (fun K hK => ?_) AllReadyH.nil)
            go_simp
            go_wp2_with fail
            refine hK.out _ _ (by first | exact C7.out | (simp [World.cell?_setCell_other]; exact C7.out)) (fun hHeld => ?_)
            clear hK K
            try simp only [Act.put, List.setIfInBounds_toArray, List.set_cons_zero, List.set_cons_succ]
            refine wpAnyH_done (by kernel_rfl) ?_ _
            go_wp2_with fail
            go_meet
            refine ⟨⟨44, 0, 0, false, ps, []⟩, _, _, m, HRR.out, Q7.out.put (turn_set _ q 4 (.slice pa pn pc)) ?_ HROW.out Q7.out.dr⟩
            have := heap_set Q7.out.ob 4 (.slice pa pn pc)
            simpa using this
      · have hRb : R = .bad .none := by
          simp at k1 k2 k3 k4 k5 k6 k7 k8 k9 k10
          rw [HRK.out]
          simp [ordK, *]
        subst hRb
        have T5 := Lib.hid HQ.out.t
        clear HRK
        go_wp2_with fail
        exact ⟨rfl, T5.out, rfl⟩
    case rest =>
      obtain ⟨o, vp, vd, j, rfl, hq⟩ := hcut
      obtain ⟨pa, pc, rfl⟩ := hq.pr.slice
      obtain ⟨da, dc, rfl⟩ := hq.dr.slice
      obtain ⟨e0, e1, e2, e3, e4, e5, _⟩ := cells6 hq.ob
      obtain ⟨_, _, _, _, _, _, f0, f1, f2, f3, f4, f5⟩ := cells6 hq.res
      have HF := Lib.hid hq
      clear hq q0 HQ HRK
      go_wp2_with fail
      refine bodyPost_ret (results_row rfl _ _ s _ rfl (load_ord (put6_row HF.out.res ..) rfl)) rfl ?_
      obtain ⟨g1, g2, g3, g4, _⟩ := HF.out.fin (.int .u8 o.kind) (.int .i64 o.addr) (.int .u8 o.byte) (.bool o.ge) (.slice pa o.pairs.length pc) (.slice da o.data.length dc)
      exact ⟨g1, ⟨_, rfl, _, _, rfl, g3, g4⟩, g2⟩
end
end Go.Proofs.YtmmgebiojpnhcaaDoor.Ord
