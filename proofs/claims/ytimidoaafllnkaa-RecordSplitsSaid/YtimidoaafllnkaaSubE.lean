/-
  The reference's Split: its contract.
-/
import Derived.Test.YtimidoaafllnkaaSubD
namespace Go.Proofs.Ytimidoaafllnkaa.Iac
open Go.RowKit Base Rec
set_option linter.unusedVariables false
set_option linter.unusedSimpArgs false

theorem rC_get (P : List RP10) : ∀ (i : Nat) (p : RP10), P[i]? = some p → (rC P)[i * 2]? = some p.2.2 ∧ (rC P)[i * 2 + 1]? = some (.bool p.2.1) := by
  induction P with
  | nil => intro i p h; simp at h
  | cons q R ih =>
    intro i p h
    match i with
    | 0 => simp at h; subst h; simp [rC]
    | i + 1 =>
      have := ih i p (by simpa using h)
      rw [show (i + 1) * 2 = i * 2 + 2 by omega]
      simpa [rC] using this
theorem rec_at {s : Nat} {w : World} {a : Option Addr} {n cap k : Nat} {P : List RP10} {p : RP10} (h : RecOwn s w (.slice a n cap) P) (hk : P[k]? = some p) :
    ∃ g, a = some ⟨g, 0, none⟩ ∧ w.cell? ⟨g, k * 2, none⟩ = some p.2.2 ∧ w.cell? ⟨g, k * 2 + 1, none⟩ = some (.bool p.2.1) := by
  have hlt := (List.getElem?_eq_some_iff.1 hk).1
  have h1 := h.row
  rcases h.row.2 with ⟨e, h0⟩ | ⟨g, c, cur, e, hg, hgb, _⟩
  · omega
  · injection e with e1 e2 e3
    subst e1
    subst e2
    have hget := rC_get P k p hk
    exact ⟨g, rfl, (h1.cellAt (k * 2) (by omega)).trans hget.1, (h1.cellAt (k * 2 + 1) (by omega)).trans hget.2⟩
theorem rec_kept {s n : Nat} {w w1 : World} {v u : Value} {P : List RP10} {xs : List Value} (h : RecOwn s w u P) (hv : w.ownsRow s 24 1 v n xs) (hg : w.grownBy w1 v.ownBlock) : RecOwn s w1 u P := by
  refine ⟨ownsRow_keep h.row fun g hqg _ hl => hg.block g hl fun ee => ?_, fun p hp => own_grown (h.own p hp) hv hg⟩
  obtain ⟨c, fz, h1⟩ := Lib.ownsRow_kind hv g ee.symm
  obtain ⟨c', fz', h2⟩ := Lib.ownsRow_kind h.row g hqg
  rw [h1] at h2
  cases h2
theorem shorts_take {T : List (List Int × Bool)} {k : Nat} {x : List Int × Bool} (h : T[k]? = some x) : shorts (T.take (k + 1)) = shorts (T.take k) ++ (if x.2 = true then [] else [x.1]) ∧ longs (T.take (k + 1)) = longs (T.take k) + (if x.2 = true then 1 else 0) := by
  rw [List.take_add_one, h]
  unfold shorts longs
  rw [List.filterMap_append, List.countP_append]
  by_cases hx : x.2 = true <;> simp [hx]
theorem one_own2 {s : Nat} {w : World} {u : Value} {L : List Int} (h : OwnBytes s w u L) : ∀ p ∈ [((L, u) : SlP)], OwnBytes s w p.2 p.1 := fun p hp => by rw [List.mem_singleton.1 hp]; exact h
def RSplitP (b : List Int) (w : World) (e : Ending) (w' : World) : Prop :=
  Below w.heap.size w w' ∧ if splitOk b = true then ∃ u R, e = .returned (.tuple #[u, .int .i64 (runM (feedD dec0 b).2).n, .int .i64 0]) ∧ SOwn w.heap.size w' u R ∧ R.map (·.1) = (runM (feedD dec0 b).2).rs ∧ R.length ≤ b.length
    else e = .returned (.tuple #[.slice none 0 0, .int .i64 0, .int .i64 20])
def SplQ (T : List (List Int × Bool)) (s n : Nat) (w : World) (u : Value) (Q : List RP10) (o c i : Value) (wr : World) : Prop :=
  ∃ (k : Nat) (Z : List SlP), k ≤ n ∧ i = .int .i64 k ∧ c = .int .i64 (longs (T.take k) : Nat) ∧ SOwn s wr o Z ∧ Z.map (·.1) = shorts (T.take k) ∧ Z.length ≤ k ∧ longs (T.take k) ≤ k ∧ RecOwn s wr u Q ∧ Below s w wr
set_option maxRecDepth 100000 in
set_option maxHeartbeats 8000000 in
theorem rsplit_any (v : Value) (b : List Int) (w : World) (h : RowOf .u8 w v b) (hl : b.length ≤ 3000) (hbyte : ∀ x ∈ b, x ≤ 255) :
    Calls Try.prog 57 #[v] w (RSplitP b w) := by
  obtain ⟨s, hs⟩ : ∃ s, s = w.heap.size := ⟨_, rfl⟩
  obtain ⟨nok, hnok⟩ : ∃ z, z = (!splitOk b) := ⟨_, rfl⟩
  have HOK := Lib.hid hnok
  clear hnok
  have HROW := Lib.hid h
  have HL := Lib.hid hl
  have HBY := Lib.hid hbyte
  have HS := Lib.hid hs
  clear h hl hbyte hs
  go_enter Try.func57, Try.ntmps57
  go_wp2_with fail
  refine (rall5_any v b w HROW.out HL.out HBY.out).mono ?_
  rintro e' w1 ⟨ov, P, left, rfl, hE, hF, hb1, hT, hFa⟩
  rw [← HS.out] at hE hb1
  obtain ⟨oa, oc, rfl⟩ := row_form hE.row
  obtain ⟨n1, hn1⟩ : ∃ n, n = P.length := ⟨_, rfl⟩
  have hn3 : n1 ≤ 3000 := by have := hF.1; have := HL.out; simp at *; omega
  rw [← hn1] at hE ⊢
  have HE := Lib.hid hE
  have HF := Lib.hid hF
  have HB1 := Lib.hid hb1
  have HT := Lib.hid hT
  have HFA := Lib.hid hFa
  have HN1 := Lib.hid hn1
  clear hE hF hb1 hT hFa hn1
  go_upto_region 2 with fail
  go_cut [32] (fun z wx => z = .bool nok ∧ wx = w1)
  case first =>
    cases left with
    | true =>
      have hz : nok = true := by rw [HOK.out]; have := HT.out rfl; unfold splitOk; simp [this]
      clear HOK
      subst hz
      go_wp2_with fail
      go_meet
      case rel => exact ⟨rfl, rfl⟩
    | false =>
      obtain ⟨hst, hsk⟩ := HFA.out rfl
      have hz : nok = !endsB (P.map (·.1)) := by rw [HOK.out]; unfold splitOk; rw [show endsB (feedD dec0 b).2 = endsB (P.map (·.1)) from (congrArg Prod.snd hsk).symm]; simp [hst]
      have HZ := Lib.hid hz
      clear hst hsk hz HOK
      rcases List.eq_nil_or_concat P with hP | ⟨Q, q, hP⟩
      · have hn0 : n1 = 0 := by rw [HN1.out, hP]; rfl
        have hzz : nok = false := by rw [HZ.out, hP]; rfl
        subst hn0
        subst hzz
        clear hP HZ
        go_wp2_with fail
        go_meet
        case rel => exact ⟨rfl, rfl⟩
      · rw [List.concat_eq_append] at hP
        obtain ⟨m, hm⟩ : ∃ m, m = Q.length := ⟨_, rfl⟩
        obtain rfl : n1 = m + 1 := by rw [HN1.out, hP, hm]; simp
        obtain ⟨k, hk⟩ : ∃ k, k = q.1.kind := ⟨_, rfl⟩
        have c0 : ∃ g, oa = some ⟨g, 0, none⟩ ∧ w1.cell? ⟨g, m * 4, none⟩ = some (.int .i64 k) := by
          have hraw := HE.out.row
          rw [← HN1.out] at hraw
          rcases hraw.2 with ⟨h1, h2⟩ | ⟨g, cap, cur, h1, hg, hgb, _⟩
          · omega
          · injection h1 with h1 _ _
            refine ⟨g, h1, ?_⟩
            subst h1
            have := (evC_get P m q (by rw [hP, hm]; simp)).1
            rw [hraw.cellAt _ (by omega), hk]
            exact this
        obtain ⟨g, rfl, c0⟩ := c0
        have hzz : nok = !decide (k = 2) := by rw [HZ.out, hP, List.map_append, hk]; simp [endsB]
        have gi0 : (0 : Int) ≤ (m : Int) := by omega
        have gi1 : (m : Int) < (m : Int) + 1 := by omega
        have gi2 : (0 : Int) < (m : Int) + 1 := by omega
        have gw : IntKind.i64.wrap ((m : Int) + 1 - 1) = (m : Int) := by rw [show (m : Int) + 1 - 1 = (m : Int) by omega]; exact IntWalk.i64_in _ (by omega)
        clear HZ hP hm hk
        by_cases h2 : k = 2
        · subst h2
          have t : nok = false := hzz
          subst t
          clear hzz
          go_wp2_with fail
          go_meet
          case rel => exact ⟨rfl, rfl⟩
        · have t2 : (k != 2) = true := by simpa using h2
          have t : nok = true := by rw [hzz]; simp [h2]
          subst t
          clear hzz h2
          go_wp2_with fail
          go_meet
          case rel => exact ⟨rfl, rfl⟩
  case rest =>
  obtain ⟨rfl, rfl⟩ := hcut
  cases nok with
  | true =>
    have hsp : splitOk b = false := by have := HOK.out; simpa using this
    have HSP := Lib.hid hsp
    clear hsp
    go_wp2_with fail
    go_ret3
    unfold RSplitP
    rw [← HS.out]
    refine And.intro HB1.out ?_
    rw [if_neg (by rw [HSP.out]; decide)]
    rfl
  | false =>
    have hsp : splitOk b = true := by have := HOK.out; simpa using this
    have hleft : left = false := by
      cases left with
      | false => rfl
      | true => have := HT.out rfl; unfold splitOk at hsp; simp [this] at hsp
    obtain ⟨J, hJ⟩ : ∃ J, J = (feedD dec0 b).2 := ⟨_, rfl⟩
    have hrun : run10 (P.map (·.1)) = run10 J := by rw [hJ]; exact sk_run (HFA.out hleft).2
    have HRUN := Lib.hid hrun
    have HSP := Lib.hid hsp
    have HJ := Lib.hid hJ
    clear hsp hleft hrun hJ HT HFA
    go_wp2_with fail
    refine (rall_any _ (P.map (·.1)) wc (by rw [HN1.out]; have := HE.out; rw [HN1.out] at this; exact this.evsAt) (by have := HF.out.1; have := HL.out; omega) (by have := HF.out.2.1; have := HL.out; omega)).mono ?_
    rintro e' w2 ⟨u, bb, Q, rfl, hQ, hB, hmap, hlen, hb2⟩
    obtain ⟨ua, uc, rfl⟩ := hQ.form
    obtain ⟨ba, bc, rfl⟩ := row_form hB
    obtain ⟨n, hn⟩ : ∃ n, n = Q.length := ⟨_, rfl⟩
    obtain ⟨T, hT⟩ : ∃ T, T = (run10 J).1 := ⟨_, rfl⟩
    rw [HRUN.out, ← hT] at hmap
    have hn3 : n ≤ 3000 := by have := HF.out.1; have := HL.out; omega
    have hnb : n ≤ b.length := by have := HF.out.1; omega
    have hs2 : s ≤ w2.heap.size := by have := HB1.out.size; have := hb2.size; have := HS.out; omega
    have hs1 : s ≤ wc.heap.size := by have := HB1.out.size; have := HS.out; omega
    have hQ0 : RecOwn s w2 (.slice ua Q.length uc) Q := ⟨by
      obtain ⟨h1, h2 | ⟨g, cap, cur, e, hg, r⟩⟩ := hQ.row
      · exact ⟨h1, .inl h2⟩
      · exact ⟨h1, .inr ⟨g, cap, cur, e, by omega, r⟩⟩, fun p hp => own_low (hQ.own p hp) hs1⟩
    rw [← hn] at hQ0 ⊢
    have hba := below_alloc w2 (.cells #[] 24)
    have HQ0 := Lib.hid (hQ0.below hba)
    have HS0 := Lib.hid (SOwn.nil hs2)
    have HB2 := Lib.hid (HB1.out.trans ((hb2.mono hs1).trans (hba.mono hs2)))
    have HMAP := Lib.hid hmap
    have HTT := Lib.hid hT
    have HN := Lib.hid hn
    have HNB := Lib.hid hnb
    clear hQ hB hmap hlen hb2 hn hT hnb hba hQ0
    go_wp2_with fail
    go_loopw [9, 10, 11] (fun o c i wr => SplQ T s n w (.slice ua n uc) Q o c i wr) (fun _ _ i _ => n - (intOf i).toNat)
    case atStart => exact ⟨0, [], by omega, rfl, rfl, HS0.out, by simp [shorts], by simp, by simp [longs], HQ0.out, HB2.out⟩
    case round =>
      obtain ⟨k, Z, hkn, rfl, rfl, hZ, hZm, hZl, hlg, hQ, hold⟩ := hrel
      obtain ⟨cn, hcn⟩ : ∃ c, c = longs (T.take k) := ⟨_, rfl⟩
      rw [← hcn] at hlg ⊢
      obtain ⟨za, zc, rfl⟩ := hZ.form
      obtain ⟨zn, hzn⟩ : ∃ z, z = Z.length := ⟨_, rfl⟩
      rw [← hzn] at hZ hZl ⊢
      have hsz : s ≤ wr.heap.size := by have := hold.size; have := HS.out; omega
      have HZ := Lib.hid hZ
      have HZM := Lib.hid hZm
      have HQ := Lib.hid hQ
      have HOLD := Lib.hid hold
      have HCN := Lib.hid hcn
      have HZN := Lib.hid hzn
      clear hZ hZm hQ hold hcn hzn HS0 HQ0 HB2
      by_cases hkl : k < n
      · have hki : (k : Int) < (n : Int) := by omega
        have hk0 : (0 : Int) ≤ (k : Int) := Int.natCast_nonneg _
        obtain ⟨p, hp⟩ : ∃ p, Q[k]? = some p := ⟨_, List.getElem?_eq_getElem (by rw [← HN.out]; exact hkl)⟩
        obtain ⟨g, rfl, d0, d1⟩ := rec_at HQ.out hp
        have htk : T[k]? = some (p.1, p.2.1) := by rw [← HMAP.out, List.getElem?_map, hp]; rfl
        have hnext := shorts_take htk
        obtain ⟨L, lg, y⟩ := p
        have hown := HQ.out.own (L, lg, y) (List.mem_of_getElem? hp)
        simp only at d0 d1 hnext hown
        obtain ⟨ya, yc, rfl⟩ := row_form hown
        obtain ⟨yn, hyn⟩ : ∃ z, z = L.length := ⟨_, rfl⟩
        rw [← hyn] at d0 hown
        have HNX := Lib.hid hnext
        have HOWN := Lib.hid hown
        have hw1 : IntKind.i64.wrap ((k : Int) + 1) = (k : Int) + 1 := IntWalk.i64_in _ (by omega)
        clear hp htk hnext hown hyn
        cases lg with
        | true =>
          have hw2 : IntKind.i64.wrap ((cn : Int) + 1) = (cn : Int) + 1 := IntWalk.i64_in _ (by omega)
          have HR5 := Lib.hid (show longs (T.take (k + 1)) = cn + 1 ∧ Z.map (·.1) = shorts (T.take (k + 1)) from ⟨by rw [HNX.out.2, HCN.out]; rfl, by rw [HNX.out.1, HZM.out]; simp⟩)
          go_wp2_with fail
          go_roundw
          case rel => exact ⟨k + 1, Z, by omega, by go_num, by rw [HR5.out.1]; go_num, by have := HZ.out; exact this, HR5.out.2, by have := HZN.out; omega, by rw [HR5.out.1]; omega, HQ.out, HOLD.out⟩
          case measure => simp [intOf]; omega
        | false =>
          have hba := below_alloc wr (.cells #[.slice ya yn yc] 24)
          have HR5 := Lib.hid (show longs (T.take (k + 1)) = cn ∧ Z.map (·.1) ++ [L] = shorts (T.take (k + 1)) from ⟨by rw [HNX.out.2, HCN.out]; rfl, by rw [HNX.out.1, HZM.out]; simp⟩)
          have HBA := Lib.hid hba
          clear hba
          have HCL := Lib.hid (sl_cl wr #[.slice ya yn yc] 24)
          have HZ2 := Lib.hid (HZ.out.below HBA.out)
          have HO2 := Lib.hid (HOWN.out.below HBA.out)
          have hzl2 : Z.length + 1 ≤ 100000 := by have := HZN.out; omega
          go_wp2_with (at_builtin; refine wpList_append_sl (Q := [(L, .slice ya yn yc)]) rfl _ _ rfl HZ2.out (one_own2 HO2.out) HCL.out rfl rfl rfl hzl2 (by rw [World.size_alloc]; omega) ?_; intro v5 w5 hown5 hgrow5; have HM := Lib.hid hown5; have HG5 := Lib.hid hgrow5; clear hown5 hgrow5)
          have HQ5 := Lib.hid (rec_kept (HQ.out.below HBA.out) HZ2.out.row HG5.out)
          have HB5 := Lib.hid ((HOLD.out.trans (HBA.out.mono hsz)).grown HG5.out (by rw [World.size_alloc]; omega) (row_first HZ.out.row))
          go_roundw
          case rel => exact ⟨k + 1, Z ++ [(L, .slice ya yn yc)], by omega, by go_num, by rw [HR5.out.1], HM.out, by rw [List.map_append]; exact HR5.out.2, by have := HZN.out; simp; omega, by rw [HR5.out.1]; omega, HQ5.out, HB5.out⟩
          case measure => simp [intOf]; omega
      · obtain rfl : n = k := by omega
        have htl : T.take n = T := List.take_of_length_le (by rw [← HMAP.out, List.length_map, ← HN.out]; exact Nat.le_refl _)
        have hm := run10_M J
        have HFIN := Lib.hid (show Below s w wr ∧ _ from ⟨HOLD.out, HZ.out⟩)
        have HR5 := Lib.hid (show (runM J).n = cn ∧ Z.map (·.1) = (runM J).rs from ⟨by rw [hm, HCN.out, htl, HTT.out]; rfl, by rw [hm, HZM.out, htl, HTT.out]; rfl⟩)
        clear htl hm
        go_wp2_with fail
        go_ret3
        unfold RSplitP
        rw [← HS.out]
        refine And.intro HOLD.out ?_
        rw [if_pos HSP.out, ← HJ.out]
        exact ⟨_, Z, by rw [HR5.out.1]; rfl, HZ.out, HR5.out.2, by have := HNB.out; have := HZN.out; omega⟩
end Go.Proofs.Ytimidoaafllnkaa.Iac
