/-
  Are two rows of orders the same?
-/
import Derived.Test.YtmmgebiojpnhcaaDoorOrdM
namespace Go.Proofs.YtmmgebiojpnhcaaDoor.Cmd
open Go.RowKit Base Go.Proofs.YtmmgebiojpnhcaaDoor.Ord
set_option linter.unusedVariables false
set_option linter.unusedSimpArgs false

set_option maxRecDepth 100000 in
set_option maxHeartbeats 2000000 in
theorem eqOrders_any {w : World} {v u : Value} {L M : List Or} (h : OrdsAt w v L) (k : OrdsAt w u M) (hL : ∀ o ∈ L, o.Ok) (hM : ∀ o ∈ M, o.Ok) (hm : L.length ≤ 1000000) (hq : M.length ≤ 1000000) : Calls Tryd.prog 43 #[v, u, .func (.func 44) #[] #[]] w fun e w' => e = .returned (.bool (decide (L = M))) ∧ Below w.heap.size w w' := by
  obtain ⟨a, c, rfl, hr⟩ := id h
  obtain ⟨a2, c2, rfl, hr2⟩ := id k
  obtain ⟨n, hn⟩ : ∃ n, n = L.length := ⟨_, rfl⟩
  obtain ⟨n2, hn2⟩ : ∃ n2, n2 = M.length := ⟨_, rfl⟩
  have H := Lib.hid h
  have K := Lib.hid k
  rw [← hn] at hm H ⊢
  rw [← hn2] at hq K ⊢
  clear h k hr hr2
  by_cases hl : n = n2
  · subst hl
    have HN := Lib.hid hn
    have HN2 := Lib.hid hn2
    have HOL := Lib.hid hL
    have HOM := Lib.hid hM
    obtain ⟨B, hB⟩ : ∃ B, B = decide (L = M) := ⟨_, rfl⟩
    rw [← hB]
    have HB := Lib.hid hB
    clear hn hn2 hB hL hM
    go_enter Tryd.func43, Tryd.ntmps43
    go_upto_region 3 with fail
    go_wp2_with fail
    go_loopw [17] (fun i wr => ∃ k : Nat, k ≤ n ∧ i = .int .i64 k ∧ Hid (L.take k = M.take k) ∧ Below w.heap.size w wr) (fun i _ => n - (intOf i).toNat)
    case atStart => exact ⟨0, by omega, rfl, Lib.hid (by simp), Below.refl _ _⟩
    case round =>
      obtain ⟨k, hk, rfl, hsame, hold⟩ := hrel
      have HO := Lib.hid hold
      clear hold
      by_cases hkn : k < n
      · have hkni : (k : Int) < (n : Int) := by omega
        have hk0 : (0 : Int) ≤ (k : Int) := Int.natCast_nonneg _
        obtain ⟨p, hp⟩ : ∃ p, L[k]? = some p := ⟨_, List.getElem?_eq_getElem (by rw [← HN.out]; exact hkn)⟩
        obtain ⟨q, hq2⟩ : ∃ q, M[k]? = some q := ⟨_, List.getElem?_eq_getElem (by rw [← HN2.out]; exact hkn)⟩
        obtain ⟨_, _, e1, hr⟩ := H.out.below HO.out
        obtain ⟨_, _, e2, hr2⟩ := K.out.below HO.out
        injection e1 with e1 ea eb
        injection e2 with e2 ec ed
        subst e1 e2 eb ed
        clear ea ec
        obtain ⟨g, off, rfl, _, hc⟩ := hr (by intro e; rw [e] at hp; simp at hp)
        obtain ⟨g2, off2, rfl, _, hc2⟩ := hr2 (by intro e; rw [e] at hq2; simp at hq2)
        obtain ⟨vp, vd, d, dp, dd⟩ := hc k p hp
        obtain ⟨vp2, vd2, f, fp, fd⟩ := hc2 k q hq2
        have D := Lib.hid hp
        have E := Lib.hid hq2
        have RP : Hid (OrR wr p (.agg #[.int .u8 p.kind, .int .i64 p.addr, .int .u8 p.byte, .bool p.ge, vp, vd])) := Lib.hid ⟨vp, vd, rfl, dp, dd⟩
        have RQ : Hid (OrR wr q (.agg #[.int .u8 q.kind, .int .i64 q.addr, .int .u8 q.byte, .bool q.ge, vp2, vd2])) := Lib.hid ⟨vp2, vd2, rfl, fp, fd⟩
        have hpo := Lib.hid (HOL.out p (List.mem_of_getElem? hp))
        have hqo := Lib.hid (HOM.out q (List.mem_of_getElem? hq2))
        obtain ⟨pa, pc, rfl⟩ := dp.form
        obtain ⟨qa, qc, rfl⟩ := fp.form
        obtain ⟨da, dc, rfl, _⟩ := id dd
        obtain ⟨ea, ec, rfl, _⟩ := id fd
        obtain ⟨d0, d1, d2, d3, d4, d5⟩ := d
        obtain ⟨f0, f1, f2, f3, f4, f5⟩ := f
        obtain ⟨pn, hpn⟩ : ∃ pn, pn = p.pairs.length := ⟨_, rfl⟩
        obtain ⟨qn, hqn⟩ : ∃ qn, qn = q.pairs.length := ⟨_, rfl⟩
        obtain ⟨dn, hdn⟩ : ∃ dn, dn = p.data.length := ⟨_, rfl⟩
        obtain ⟨en, hen⟩ : ∃ en, en = q.data.length := ⟨_, rfl⟩
        rw [← hpn] at d4 RP
        rw [← hqn] at f4 RQ
        rw [← hdn] at d5 RP
        rw [← hen] at f5 RQ
        have x1 := below_alloc wr (.cells #[.int .u8 p.kind, .int .i64 p.addr, .int .u8 p.byte, .bool p.ge, .slice pa pn pc, .slice da dn dc] 92)
        have x2 := below_alloc (wr.alloc (.cells #[.int .u8 p.kind, .int .i64 p.addr, .int .u8 p.byte, .bool p.ge, .slice pa pn pc, .slice da dn dc] 92)) (.cells #[.int .u8 q.kind, .int .i64 q.addr, .int .u8 q.byte, .bool q.ge, .slice qa qn qc, .slice ea en ec] 92)
        have hw2 : Below wr.heap.size wr ((wr.alloc (.cells #[.int .u8 p.kind, .int .i64 p.addr, .int .u8 p.byte, .bool p.ge, .slice pa pn pc, .slice da dn dc] 92)).alloc (.cells #[.int .u8 q.kind, .int .i64 q.addr, .int .u8 q.byte, .bool q.ge, .slice qa qn qc, .slice ea en ec] 92)) := x1.trans (x2.mono x1.size)
        have RP1 := Lib.hid (RP.out.below hw2)
        have RQ1 := Lib.hid (RQ.out.below hw2)
        have HW2 := Lib.hid hw2
        clear hp hq2 hc hc2 hr hr2 dp dd fp fd hpn hqn hdn hen x1 x2 hw2
        by_cases hpq : sameO p q = true
        · have HPQ := Lib.hid hpq
          clear hpq
          go_wp2_with (first | (go_at_call 44; refine (same_any RP1.out RQ1.out hpo.out hqo.out).mono ?_; rw [HPQ.out]; rintro e W2 ⟨rfl, b2⟩; have B2 := Lib.hid (HO.out.trans ((HW2.out.trans (b2.mono HW2.out.size)).mono HO.out.size)); clear b2))
          go_roundw
          case rel => exact ⟨k + 1, by omega, by go_num, Lib.hid (by rw [List.take_add_one, List.take_add_one, hsame.out, D.out, E.out, (sameO_eq p q).1 HPQ.out]), B2.out⟩
          case measure => simp [intOf]; omega
        · have HPQ : Hid (sameO p q = false) := Lib.hid (by simpa using hpq)
          have hBf : B = false := by
            rw [HB.out]
            apply decide_eq_false
            intro e
            have h1 := D.out
            rw [e, E.out] at h1
            injection h1 with h1
            exact hpq ((sameO_eq p q).2 h1.symm)
          subst hBf
          clear hpq
          go_wp2_with (first | (go_at_call 44; refine (same_any RP1.out RQ1.out hpo.out hqo.out).mono ?_; rw [HPQ.out]; rintro e W2 ⟨rfl, b2⟩; have B2 := Lib.hid (HO.out.trans ((HW2.out.trans (b2.mono HW2.out.size)).mono HO.out.size)); clear b2))
          go_ret
          exact ⟨rfl, B2.out⟩
      · obtain rfl : n = k := by omega
        have hBt : B = true := by
          rw [HB.out]
          apply decide_eq_true
          have := hsame.out
          rwa [List.take_of_length_le (by rw [← HN.out]; exact Nat.le_refl _), List.take_of_length_le (by rw [← HN2.out]; exact Nat.le_refl _)] at this
        subst hBt
        go_wp2_with fail
        go_ret
        exact ⟨rfl, HO.out⟩
  · have hB : decide (L = M) = false := decide_eq_false fun e => hl (by rw [hn, hn2, e])
    rw [hB]
    have hli : ((n : Int) == (n2 : Int)) = false := by simp; omega
    clear hB hn hn2 hl
    go_enter Tryd.func43, Tryd.ntmps43
    go_wp2_with fail
    go_ret
    exact ⟨rfl, Below.refl _ _⟩
end Go.Proofs.YtmmgebiojpnhcaaDoor.Cmd
