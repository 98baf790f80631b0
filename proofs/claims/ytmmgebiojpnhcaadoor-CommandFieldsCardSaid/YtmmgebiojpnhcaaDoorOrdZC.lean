/-
  Orders' bytes: the contract of Write.
-/
import Derived.Test.YtmmgebiojpnhcaaDoorOrdZB
namespace Go.Proofs.YtmmgebiojpnhcaaDoor.Ord
open Go.RowKit Base
set_option linter.unusedVariables false
set_option linter.unusedSimpArgs false

def wErr : List Or → Int → Int
  | [], _ => 0
  | o :: os, n => if chkO o n = 0 then wErr os n else chkO o n
def wBytes (os : List Or) (n : Int) : List Int := os.flatMap fun o => encO o n
/-- A row of orders that can be read, data that is nil having no room. -/
def OrdsAt2 (w : World) (v : Value) (L : List Or) : Prop :=
  ∃ a cap, v = .slice a L.length cap ∧ (L ≠ [] → ∃ g off, a = some ⟨g, off, none⟩ ∧ g < w.heap.size ∧ ∀ i o, L[i]? = some o → ∃ vp vd, OC g (off + i * 6) o vp vd w ∧ PrAt w vp o.pairs ∧ RowOf .u8 w vd o.data ∧ ∀ n c, vd = .slice none n c → c = 0)
theorem OrdsAt2.below {w w' : World} {v : Value} {L : List Or} (h : OrdsAt2 w v L) (t : Below w.heap.size w w') : OrdsAt2 w' v L := by
  obtain ⟨a, cap, rfl, hr⟩ := h
  refine ⟨a, cap, rfl, fun hne => ?_⟩
  obtain ⟨g, off, rfl, hg, hi⟩ := hr hne
  refine ⟨g, off, rfl, Nat.lt_of_lt_of_le hg t.size, fun i o ho => ?_⟩
  obtain ⟨vp, vd, h1, h2, h3, h4⟩ := hi i o ho
  exact ⟨vp, vd, OC.below h1 t, h2.below t, h3.below t, h4⟩
theorem OrdsAt2.at {w : World} {v : Value} {L : List Or} (h : OrdsAt2 w v L) : OrdsAt w v L := by
  obtain ⟨a, cap, rfl, hr⟩ := h
  refine ⟨a, cap, rfl, fun hne => ?_⟩
  obtain ⟨g, off, rfl, hg, hi⟩ := hr hne
  refine ⟨g, off, rfl, hg, fun i o ho => ?_⟩
  obtain ⟨vp, vd, h1, h2, h3, h4⟩ := hi i o ho
  exact ⟨vp, vd, h1, h2, h3⟩
theorem OrdsOwn.at2 {s : Nat} {w : World} {v : Value} {P : List OrdP} (h : OrdsOwn s w v P) : OrdsAt2 w v (P.map (·.1)) := by
  rcases h.row.2 with ⟨rfl, hn⟩ | ⟨g, cap, cur, rfl, hg, hgb, hrest⟩
  · have : P = [] := List.eq_nil_of_length_eq_zero hn
    subst this
    exact ⟨none, 0, rfl, fun h => absurd rfl h⟩
  · refine ⟨some ⟨g, 0, none⟩, cap, by rw [List.length_map], fun hne => ⟨g, 0, rfl, lt_of_block hgb, fun i o ho => ?_⟩⟩
    rw [List.getElem?_map] at ho
    cases hp : P[i]? with
    | none => rw [hp] at ho; cases ho
    | some p =>
      rw [hp] at ho
      obtain rfl : p.1 = o := by simpa using ho
      obtain ⟨f0, f1, f2, f3, f4, f5⟩ := ordC_get P i p hp
      obtain ⟨hpp, hpd⟩ := h.own p (List.mem_of_getElem? hp)
      refine ⟨p.2.1, p.2.2, ?_, hpp.at, hpd.row, fun n c e => ?_⟩
      · rw [show (0 : Nat) + i * 6 = i * 6 from Nat.zero_add _]
        exact ⟨own_cell h.row _ _ f0, own_cell h.row _ _ f1, own_cell h.row _ _ f2, own_cell h.row _ _ f3, own_cell h.row _ _ f4, own_cell h.row _ _ f5⟩
      · rcases hpd.2 with ⟨e2, _⟩ | ⟨g', cap', cur', e2, _⟩
        · rw [e2] at e; injection e with _ _ e; exact e.symm
        · rw [e2] at e; cases e
structure Or.Ok4 (o : Or) : Prop where
  ps : o.pairs.length ≤ 1000000
  dt : o.data.length ≤ 1000000
  a0 : -9223372036854775808 ≤ o.addr
  a1 : o.addr ≤ 9223372036854775807
  b0 : 0 ≤ o.byte
  b1 : o.byte ≤ 255
theorem chk_ok {o : Or} {n : Int} (h : chkO o n = 0) : known o.kind = true ∧ o.pairs.length ≤ 255 := by
  unfold chkO at h
  split at h
  · cases h
  · next h1 =>
    split at h
    · cases h
    · split at h
      · cases h
      · next h3 =>
        refine ⟨by simpa using h1, ?_⟩
        simp [manyM] at h3
        exact h3.1
theorem Or.Ok4.ok3 {o : Or} {n : Int} (h : o.Ok4) (hc : chkO o n = 0) : o.Ok3 := ⟨(chk_ok hc).1, (chk_ok hc).2, h.dt, h.a0, h.a1, h.b0, h.b1⟩
theorem Or.Ok4.okw {o : Or} (h : o.Ok4) : o.Okw := ⟨h.ps, h.dt, h.a0, h.a1, h.b0, h.b1⟩
theorem wErr_at : ∀ (L : List Or) (n : Int) (j : Nat) (o : Or), L[j]? = some o → (∀ p ∈ L.take j, chkO p n = 0) → chkO o n ≠ 0 → wErr L n = chkO o n
  | [], n, j, o, h, _, _ => by simp at h
  | p :: L, n, 0, o, h, _, hne => by
    obtain rfl : p = o := by simpa using h
    unfold wErr
    rw [if_neg hne]
  | p :: L, n, j + 1, o, h, ha, hne => by
    unfold wErr
    rw [if_pos (ha p (by simp))]
    exact wErr_at L n j o (by simpa using h) (fun q hq => ha q (by simp [hq])) hne
theorem wErr_ok : ∀ (L : List Or) (n : Int), (∀ p ∈ L, chkO p n = 0) → wErr L n = 0
  | [], n, _ => rfl
  | p :: L, n, h => by
    unfold wErr
    rw [if_pos (h p (by simp))]
    exact wErr_ok L n fun q hq => h q (by simp [hq])
theorem wBytes_take (L : List Or) (n : Int) (j : Nat) (o : Or) (h : L[j]? = some o) : wBytes (L.take (j + 1)) n = wBytes (L.take j) n ++ encO o n := by
  unfold wBytes
  rw [List.take_add_one, h]
  simp
theorem wBytes_le (L : List Or) (n : Int) (j : Nat) : (wBytes (L.take j) n).length ≤ (wBytes L n).length := by
  unfold wBytes
  conv => rhs; rw [← List.take_append_drop j L, List.flatMap_append, List.length_append]
  omega
def WriteK (s : Nat) (w : World) (L : List Or) (n : Int) (e : Ending) (w' : World) : Prop := ∃ u, e = .returned (.tuple #[u, .int .i64 (wErr L n)]) ∧ (wErr L n = 0 → OwnBytes s w' u (wBytes L n)) ∧ (wErr L n ≠ 0 → u = .slice none 0 0) ∧ Below s w w'
structure XQ (s : Nat) (w : World) (L : List Or) (n : Int) (j : Nat) (v : Value) (wr : World) : Prop where
  all : ∀ p ∈ L.take j, chkO p n = 0
  own : OwnBytes s wr v (wBytes (L.take j) n)
  old : Below s w wr
set_option maxRecDepth 100000 in
set_option maxHeartbeats 8000000 in
theorem owrites_any {w : World} {v : Value} {L : List Or} (n : Int) (h : OrdsAt2 w v L) (ho : ∀ o ∈ L, o.Ok4) (hm : L.length ≤ 1000000) (hb : (wBytes L n).length ≤ 5000000) : Calls Tryd.prog 34 #[v, .int .i64 n] w (WriteK w.heap.size w L n) := by
  obtain ⟨a, cap, rfl, hr⟩ := h
  obtain ⟨N, hN⟩ : ∃ N, N = L.length := ⟨_, rfl⟩
  obtain ⟨s, hs⟩ : ∃ s, s = w.heap.size := ⟨_, rfl⟩
  rw [← hN] at hm ⊢
  rw [← hs]
  have HN := Lib.hid hN
  have HS := Lib.hid hs
  have HR := Lib.hid hr
  have HOK := Lib.hid ho
  have HB := Lib.hid hb
  clear hN hs hr ho hb
  go_enter Tryd.func34, Tryd.ntmps34
  go_upto_region 3 with fail
  go_loopw [6, 12] (fun v i wr => ∃ j : Nat, j ≤ N ∧ i = .int .i64 j ∧ XQ s w L n j v wr) (fun _ i _ => N - (intOf i).toNat)
  case atStart => exact ⟨0, by omega, rfl, by simp, OwnBytes.nil _ _, Below.refl _ _⟩
  case round =>
    obtain ⟨j, hj, rfl, hq⟩ := hrel
    by_cases hjn : j < N
    · have hjni : (j : Int) < (N : Int) := by omega
      have hj0 : (0 : Int) ≤ (j : Int) := Int.natCast_nonneg _
      obtain ⟨o, hoo⟩ : ∃ o, L[j]? = some o := ⟨_, List.getElem?_eq_getElem (by rw [← HN.out]; exact hjn)⟩
      obtain ⟨g, off, rfl, hg, hc⟩ := HR.out (by intro e; rw [e] at hoo; simp at hoo)
      obtain ⟨vp, vd, hcell, hpp, hpd, hdz⟩ := hc j o hoo
      have hok := HOK.out o (List.mem_of_getElem? hoo)
      have hold : Below w.heap.size w wr := by rw [← HS.out]; exact hq.old
      obtain ⟨d0, d1, d2, d3, d4, d5⟩ := OC.below hcell hold
      have PLOW : Hid (PrLow s w vp o.pairs) := Lib.hid (by rw [HS.out]; exact hpp.low)
      have DLOW : Hid (RowIn (fun k => k < s) .u8 w vd o.data) := Lib.hid (by rw [HS.out]; exact hpd.lowK)
      obtain ⟨pa, pc, rfl⟩ := hpp.form
      obtain ⟨da, dc, rfl⟩ : ∃ a c, vd = .slice a o.data.length c := by obtain ⟨a, c, e, _⟩ := hpd; exact ⟨a, c, e⟩
      have hal := below_alloc wr (.cells #[.int .u8 o.kind, .int .i64 o.addr, .int .u8 o.byte, .bool o.ge, .slice pa o.pairs.length pc, .slice da o.data.length dc] 92)
      have hnw := heap_alloc_new wr (.cells #[.int .u8 o.kind, .int .i64 o.addr, .int .u8 o.byte, .bool o.ge, .slice pa o.pairs.length pc, .slice da o.data.length dc] 92)
      obtain ⟨W1, hW1⟩ : ∃ W1, W1 = wr.alloc (.cells #[.int .u8 o.kind, .int .i64 o.addr, .int .u8 o.byte, .bool o.ge, .slice pa o.pairs.length pc, .slice da o.data.length dc] 92) := ⟨_, rfl⟩
      obtain ⟨ob, hob⟩ : ∃ ob, ob = wr.heap.size := ⟨_, rfl⟩
      rw [← hW1] at hal hnw
      rw [← hob] at hnw
      have HPD := Lib.hid ((hpd.below hold).below hal)
      have HPP := Lib.hid ((hpp.below hold).below hal)
      have HAL := Lib.hid hal
      have HNW := Lib.hid hnw
      have HW1 := Lib.hid hW1.symm
      have HOB := Lib.hid hob.symm
      have HQ := Lib.hid hq
      have HO := Lib.hid hoo
      have HK := Lib.hid hok
      have HDZ := Lib.hid hdz
      have HTB := Lib.hid (wBytes_take L n j o hoo)
      have HSZ : Hid (s ≤ wr.heap.size) := Lib.hid (by rw [HS.out]; exact hold.size)
      have HCK := Lib.hid (ocheck_any (o := o) n ⟨_, _, rfl, HPP.out, HPD.out⟩ hok.okw)
      have HLE : Hid ((wBytes (L.take j) n).length ≤ 5000000) := Lib.hid (Nat.le_trans (wBytes_le L n j) HB.out)
      obtain ⟨pn, hpn⟩ : ∃ pn, pn = o.pairs.length := ⟨_, rfl⟩
      obtain ⟨dn, hdn⟩ : ∃ dn, dn = o.data.length := ⟨_, rfl⟩
      rw [← hpn] at d4 HW1 HNW HCK PLOW
      rw [← hdn] at d5 HW1 HNW HCK DLOW HDZ
      clear hcell hpp hpd hdz hok hold hal hnw hW1 hob hq hoo hc hg hpn hdn
      by_cases hck : chkO o n = 0
      · have HC0 := Lib.hid hck
        rw [hck] at HCK
        clear hck
        go_upto_region 5 with fail
        rw [HW1.out, HOB.out]
        clear d0 d1 d2 d3 d4 d5
        obtain ⟨d0, d1, d2, d3, d4, d5, _⟩ := cells6 HNW.out
        go_wp2_with fail
        refine HCK.out.mono ?_
        rintro e W2 ⟨rfl, b2⟩
        have N2 := Lib.hid ((b2.block ob (lt_of_block HNW.out)).trans HNW.out)
        have OW2 := Lib.hid ((HQ.out.own.below HAL.out).below b2)
        have OL2 := Lib.hid (HQ.out.old.trans ((HAL.out.trans (b2.mono HAL.out.size)).mono HSZ.out))
        have SZ2 : Hid (s ≤ W2.heap.size) := Lib.hid (Nat.le_trans HSZ.out (Nat.le_trans HAL.out.size b2.size))
        clear b2 d0 d1 d2 d3 d4 d5
        obtain ⟨d0, d1, d2, d3, d4, d5, _⟩ := cells6 N2.out
        go_wp2_with fail
        refine (owrite_any n OW2.out OL2.out SZ2.out PLOW.out DLOW.out HDZ.out (HK.out.ok3 HC0.out) HLE.out).mono ?_
        rintro e W3 ⟨u, rfl, hu, b3⟩
        have H3 : Hid (XQ s w L n (j + 1) u W3) := Lib.hid ⟨fun p hp => by
          rw [List.take_add_one, HO.out] at hp
          rcases List.mem_append.1 hp with hp | hp
          · exact HQ.out.all p hp
          · obtain rfl : p = o := by simpa using hp
            exact HC0.out, by rw [HTB.out]; exact hu, b3⟩
        clear hu b3 d0 d1 d2 d3 d4 d5
        go_wp2_with fail
        go_roundw
        case rel => exact ⟨j + 1, by omega, by go_num, H3.out⟩
        case measure => simp [intOf]; omega
      · have HE := Lib.hid (wErr_at L n j o HO.out HQ.out.all hck)
        have HNE := Lib.hid hck
        obtain ⟨E, hE⟩ : ∃ E, E = chkO o n := ⟨_, rfl⟩
        have hne : (E == 0) = false := by rw [hE]; simpa using hck
        rw [← hE] at HCK HE
        have HEE := Lib.hid hE
        clear hck hE
        go_upto_region 5 with fail
        rw [HW1.out, HOB.out]
        clear d0 d1 d2 d3 d4 d5
        obtain ⟨d0, d1, d2, d3, d4, d5, _⟩ := cells6 HNW.out
        go_wp2_with fail
        refine HCK.out.mono ?_
        rintro e W2 ⟨rfl, b2⟩
        have OL2 := Lib.hid (HQ.out.old.trans ((HAL.out.trans (b2.mono HAL.out.size)).mono HSZ.out))
        clear b2 d0 d1 d2 d3 d4 d5
        go_wp2_with fail
        refine bodyPost_ret (v := .tuple #[.slice none 0 0, .int .i64 E]) (by simp [results, Tryd.results34, go_sem]) rfl ?_
        exact ⟨_, by rw [HE.out], fun h => absurd (HEE.out.symm.trans (HE.out.symm.trans h)) HNE.out, fun _ => rfl, OL2.out⟩
    · obtain rfl : N = j := by omega
      have hall : ∀ p ∈ L, chkO p n = 0 := by
        have := hq.all
        rwa [List.take_of_length_le (by rw [← HN.out]; exact Nat.le_refl _)] at this
      obtain ⟨v, hv⟩ : ∃ v, v = u6 := ⟨_, rfl⟩
      have hown : OwnBytes s wr u6 (wBytes L n) := by
        have := hq.own
        rwa [List.take_of_length_le (by rw [← HN.out]; exact Nat.le_refl _)] at this
      have HE := Lib.hid (wErr_ok L n hall)
      have HOW := Lib.hid hown
      have HOL := Lib.hid hq.old
      clear hall hown hq hv
      go_wp2_with fail
      refine bodyPost_ret (v := .tuple #[u6, .int .i64 0]) (by simp [results, Tryd.results34, go_sem]) rfl ?_
      exact ⟨_, by rw [HE.out], fun _ => HOW.out, fun h => absurd HE.out h, HOL.out⟩
end Go.Proofs.YtmmgebiojpnhcaaDoor.Ord
