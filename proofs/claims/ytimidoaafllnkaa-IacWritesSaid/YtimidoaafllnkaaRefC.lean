/-
  The reference's Joined: its contract.
-/
import Derived.Test.YtimidoaafllnkaaRefB
namespace Go.Proofs.Ytimidoaafllnkaa.Iac
open Go.RowKit Base
set_option linter.unusedVariables false

def RJRel (L : List Ev) (n s : Nat) (w : World) (v i : Value) (wr : World) : Prop :=
  ∃ (k : Nat) (P : List EvP), k ≤ n ∧ i = .int .i64 k ∧ ROwn s wr v P ∧ P.map (·.1) = joinL (L.take k) ∧ Below s w wr
set_option maxRecDepth 100000 in
set_option maxHeartbeats 2000000 in
theorem rjoined_any (v : Value) (L : List Ev) (w : World) (h : EvsAt w v L) (hm : L.length ≤ 50000) (ht : totE L ≤ 100000) :
    Calls Try.prog 21 #[v] w (Added w.heap.size w (joinL L)) := by
  obtain ⟨s, hs⟩ : ∃ s, s = w.heap.size := ⟨_, rfl⟩
  rw [← hs]
  obtain ⟨a, cap, rfl, hrow⟩ := h
  obtain ⟨n, hn⟩ : ∃ n, n = L.length := ⟨_, rfl⟩
  rw [← hn] at hm ⊢
  have HN := Lib.hid hn
  have HR := Lib.hid hrow
  have HS := Lib.hid hs
  have HTOT := Lib.hid ht
  have H0 := Lib.hid (rev0 (s := s) (w := w) (by omega))
  have HB0 := Lib.hid (below_alloc w (.cells #[] 32))
  clear hn hrow hs ht
  go_enter Try.func21, Try.ntmps21
  go_wp2_with fail
  go_loopw [3, 4] (fun v i wr => RJRel L n s w v i wr) (fun _ i _ => n - (intOf i).toNat)
  case atStart => exact ⟨0, [], by omega, rfl, ⟨H0.out, by simp⟩, by simp [joinL], by rw [HS.out]; exact HB0.out⟩
  case round =>
    obtain ⟨k, P, hk, rfl, hE, hP, hold⟩ := hrel
    have hsz : s ≤ wr.heap.size := by have := hold.size; have := HS.out; omega
    by_cases hkn : k < n
    · have hkl : k < L.length := by rw [← HN.out]; exact hkn
      obtain ⟨g, off, rfl, hgl, hc⟩ := HR.out (by intro e; rw [e] at hkl; simp at hkl)
      obtain ⟨q, hq⟩ : ∃ q, L[k]? = some q := ⟨_, List.getElem?_eq_getElem hkl⟩
      have htk : L.take (k + 1) = L.take k ++ [q] := by
        rw [List.take_succ_eq_append_getElem hkl]
        obtain ⟨_, e⟩ := List.getElem?_eq_some_iff.1 hq
        rw [e]
      have hnx : joinL (L.take (k + 1)) = joinE (joinL (L.take k)) q := by rw [htk, joinL_snoc]
      obtain ⟨u, d0, d1, d2, d3, hu⟩ := hc k q hq
      have hgs : g < s := by rw [HS.out]; exact hgl
      have d0 := (hold.cell (p := ⟨g, off + k * 4, none⟩) hgs).trans d0
      have d1 := (hold.cell (p := ⟨g, off + k * 4 + 1, none⟩) hgs).trans d1
      have d2 := (hold.cell (p := ⟨g, off + k * 4 + 2, none⟩) hgs).trans d2
      have d3 := (hold.cell (p := ⟨g, off + k * 4 + 3, none⟩) hgs).trans d3
      have hqt := tot_mem (List.mem_of_getElem? hq)
      have htk1 := joinL_tot (L.take k)
      have htk2 := tot_take L k
      have hpl : P.length ≤ 50000 := by
        have h1 : P.length = (joinL (L.take k)).length := by rw [← hP, List.length_map]
        have h2 : (L.take k).length ≤ k := by rw [List.length_take]; omega
        omega
      have hpb : ∀ p ∈ P, p.1.bytes.length ≤ 100000 := fun p hp => by
        have h1 : p.1 ∈ joinL (L.take k) := by rw [← hP]; exact List.mem_map_of_mem hp
        have h2 := tot_mem h1
        have := HTOT.out
        omega
      have hql : q.bytes.length ≤ 100000 := by have := HTOT.out; omega
      have hrb : RB s wr u q.bytes := .inl ((hu.lowK.below (by have := hold; rw [HS.out] at this; exact this)).mono fun b hb => by rw [HS.out]; exact hb)
      obtain ⟨ua, uc, hue⟩ := hrb.slice
      subst hue
      obtain ⟨ul, hul⟩ : ∃ ul, ul = q.bytes.length := ⟨_, rfl⟩
      rw [← hul] at d3 hrb
      have HUL := Lib.hid hul
      have HRB := Lib.hid hrb
      have HE := Lib.hid hE
      have HP := Lib.hid hP
      have HPB := Lib.hid hpb
      have HQL := Lib.hid hql
      have HNX := Lib.hid hnx
      have HOLD := Lib.hid hold
      clear hc hkl hgl hq htk hnx hu hgs hqt htk1 htk2 hpb hql hrb hul hE hP hold
      have ik : (0 : Int) ≤ (k : Int) := Int.natCast_nonneg _
      by_cases hk1 : q.kind = 1
      · by_cases hq0 : q.bytes = []
        · obtain rfl : ul = 0 := by rw [HUL.out, hq0]; rfl
          have t1 : (q.kind != 1) = false := by simp [hk1]
          have HST : Hid (joinE (joinL (L.take k)) q = joinL (L.take k)) := Lib.hid (by unfold joinE; rw [if_pos ⟨hk1, hq0⟩])
          clear hk1 hq0
          go_wp2_with fail
          go_roundw
          case rel => exact ⟨k + 1, P, by omega, by go_num, HE.out, by rw [HNX.out, HST.out, HP.out], HOLD.out⟩
          case measure => simp [intOf]; omega
        · have hul1 : 0 < ul := by rw [HUL.out]; exact List.length_pos_iff.2 hq0
          have hul2 : (0 : Int) < ul := by omega
          have t1 : (q.kind != 1) = false := by simp [hk1]
          have HST : Hid (joinE (joinL (L.take k)) q = addL (P.map (·.1)) q) := Lib.hid (by unfold joinE; rw [if_neg fun h => hq0 h.2, HP.out])
          clear hk1 hq0
          go_wp2_with fail
          refine (radd_any s _ P q ua ul uc wr HE.out HRB.out hsz hpl HPB.out HQL.out).mono ?_
          rintro e' w5 ⟨v5, P5, rfl, hE5, hP5, hb5⟩
          have HE5 := Lib.hid hE5
          have HP5 := Lib.hid hP5
          have HB5 := Lib.hid (HOLD.out.trans hb5)
          clear hE5 hP5 hb5
          go_wp2_with fail
          go_roundw
          case rel => exact ⟨k + 1, P5, by omega, by go_num, HE5.out, by rw [HNX.out, HST.out, HP5.out], HB5.out⟩
          case measure => simp [intOf]; omega
      · have t1 : (q.kind != 1) = true := by simpa using hk1
        have HST : Hid (joinE (joinL (L.take k)) q = addL (P.map (·.1)) q) := Lib.hid (by unfold joinE; rw [if_neg fun h => hk1 h.1, HP.out])
        clear hk1
        go_wp2_with fail
        refine (radd_any s _ P q ua ul uc wr HE.out HRB.out hsz hpl HPB.out HQL.out).mono ?_
        rintro e' w5 ⟨v5, P5, rfl, hE5, hP5, hb5⟩
        have HE5 := Lib.hid hE5
        have HP5 := Lib.hid hP5
        have HB5 := Lib.hid (HOLD.out.trans hb5)
        clear hE5 hP5 hb5
        go_wp2_with fail
        go_roundw
        case rel => exact ⟨k + 1, P5, by omega, by go_num, HE5.out, by rw [HNX.out, HST.out, HP5.out], HB5.out⟩
        case measure => simp [intOf]; omega
    · obtain rfl : n = k := by omega
      rw [List.take_of_length_le (by rw [← HN.out]; exact Nat.le_refl _)] at hP
      have HP := Lib.hid hP
      have HE := Lib.hid hE
      have HO := Lib.hid hold
      clear hP hE hold
      go_wp2_with fail
      go_ret
      exact ⟨_, P, rfl, HE.out, HP.out, HO.out⟩
end Go.Proofs.Ytimidoaafllnkaa.Iac
