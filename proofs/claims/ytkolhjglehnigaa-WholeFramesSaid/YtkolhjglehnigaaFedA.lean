/-
  The statements' 'fed': events of bytes that come in parts.
-/
import Derived.Test.YtkolhjglehnigaaCutGen
namespace Go.Proofs.Ytkolhjglehnigaa.Iac
open Go.RowKit Base
set_option linter.unusedVariables false

theorem and63 (n : Int) : bits .and .i64 n 63 = n % 64 := i64_mask n 63 6 (by decide) (by decide) (by decide)
/-- What a round of the parts finds. -/
structure CS (s d : Nat) (L : List Int) (W6 : World) (c r kc : Nat) (rest parts : Value) (P : List EvP) (De : Dec) (wr : World) : Prop where
  rest : RowIn (fun k => k < d + 1) .u8 wr rest (L.drop c)
  dec : DecAt wr (d + 1) De
  st : De.state ≤ 4
  parts : PartsAt s wr parts P
  ok : PartsOk De (P.map (·.1)) (L.take c)
  len : P.length ≤ 2 * c
  tot : totE (P.map (·.1)) + pend De ≤ c
  t : Turn (fun k => k = d + 1 ∨ s ≤ k) W6 wr
def CSRel (s d : Nat) (L : List Int) (W6 : World) (n m : Nat) (parts rest i : Value) (wr : World) : Prop :=
  ∃ (j c r kc : Nat) (ra : Option Addr) (P : List EvP) (De : Dec), j ≤ m ∧ i = .int .i64 j ∧ rest = .slice ra r kc ∧ c + r = n ∧ r ≤ kc ∧ CS s d L W6 c r kc rest parts P De wr
/-- A part more. -/
theorem CS.next {s d c r kc p r' kc' : Nat} {L : List Int} {W6 wr W2 w5 : World} {rest rest' parts parts' v2 : Value} {P P2 : List EvP} {De : Dec} {n : Nat}
    (h   : CS s d L W6 c r kc rest parts P De wr) (hn : n = L.length) (hcr : c + r = n) (hp : p ≤ r) (hds : d + 1 < s) (hs : s ≤ wr.heap.size)
    (hD : DecAt W2 (d + 1) (feedD De ((L.drop c).take p)).1) (hE : EvsOwn wr.heap.size W2 v2 P2) (hP2 : P2.map (·.1) = (feedD De ((L.drop c).take p)).2) (hT : Turn (fun k => k = d + 1 ∨ wr.heap.size ≤ k) wr W2)
    (hown : w5.ownsRow s 26 4 parts' (P.length + P2.length) (evC P ++ evC P2)) (hg : W2.grownBy w5 parts.ownBlock)
    (hrest : RowIn (fun k => k < d + 1) .u8 wr rest' (L.drop (c + p)))   : CS s d L W6 (c + p) r' kc' rest' parts' (P ++ P2) (feedD De ((L.drop c).take p)).1 w5 := by
  have hlen : ((L.drop c).take p).length = p := by rw [List.length_take, List.length_drop]; omega
  have hfine := feedD_fine De ((L.drop c).take p) h.st (by obtain ⟨A, _, k⟩ := h.dec; exact k.le)
  have hpot := feed_pot De ((L.drop c).take p)
  rw [hlen] at hfine hpot
  have hpw := h.parts.turn hT fun k hk => by omega
  have hrowb : ∀ k, parts.ownBlock = some k → s ≤ k := row_first h.parts.row
  have hT2 : Turn (fun k => k = d + 1 ∨ s ≤ k) W2 w5 := ⟨hg.os, hg.tape, hg.output, hg.size, fun k hk hS => hg.block k hk fun e => hS (.inr (hrowb k e.symm))⟩
  have hT1 : Turn (fun k => k = d + 1 ∨ s ≤ k) wr W2 := hT.mono fun k hk => by omega
  have htot : totE (P2.map (·.1)) = totE (feedD De ((L.drop c).take p)).2 := by rw [hP2]
  have htk : L.take (c + p) = L.take c ++ (L.drop c).take p := by rw [List.take_add]
  have hT2s : Turn (fun k => s ≤ k) W2 w5 := ⟨hg.os, hg.tape, hg.output, hg.size, fun k hk hS => hg.block k hk fun e => hS (hrowb k e.symm)⟩
  refine ⟨hrest.turn (hT1.trans hT2) fun b hb => by omega, hD.turn hT2s (by omega), hfine.state, hpw.more hE hs hown hg, ?_, ?_, ?_, (h.t.trans hT1).trans hT2⟩
  · rw [List.map_append, hP2, htk]
    exact parts_next h.ok
  · have h1 : P2.length = (feedD De ((L.drop c).take p)).2.length := by rw [← hP2, List.length_map]
    have h2 := hfine.many
    have h3 := h.len
    rw [List.length_append]
    omega
  · have h3 := h.tot
    rw [List.map_append, totE_append]
    omega
theorem turn_cell {S : Nat → Prop} {w w' : World} (h : Turn S w w') (g o : Nat) (hg : g < w.heap.size) (hS : ¬ S g) : w'.cell? ⟨g, o, none⟩ = w.cell? ⟨g, o, none⟩ := by
  simp only [World.cell?]
  rw [h.block g hg hS]
/-- What 'fed' answers. -/
def FedP (d s : Nat) (L : List Int) (w : World) (e : Ending) (w' : World) : Prop :=
  ∃ u P D, e = .returned u ∧ PartsAt s w' u P ∧ PartsOk D (P.map (·.1)) L ∧ DecAt w' (d + 1) D ∧ P.length ≤ 2 * L.length ∧ totE (P.map (·.1)) ≤ L.length ∧ Turn (fun k => k = d + 1 ∨ s ≤ k) w w'
theorem fed_end {s d c r kc n : Nat} {L : List Int} {w W6 w8 : World} {rest parts : Value} {P : List EvP} {De : Dec} (h : CS s d L W6 (c + r) 0 kc rest parts P De w8) (hn : n = L.length) (hcr : c + r = n) (t : Turn (fun k => k = d + 1 ∨ s ≤ k) w W6) : FedP d s L w (.returned parts) w8 := by
  have h1 := h.ok
  rw [List.take_of_length_le (by omega)] at h1
  exact ⟨parts, P, De, rfl, h.parts, h1, h.dec, by have := h.len; omega, by have := h.tot; omega, t.trans h.t⟩
set_option maxRecDepth 100000 in
set_option maxHeartbeats 8000000 in
theorem fed_any (d : Nat) (a : Option Addr) (n cap : Nat) (L : List Int) (z : Value) (Z : List Int) (w : World) (hd : DecAt w (d + 1) dec0) (hr : RowIn (fun k => k < d + 1) .u8 w (.slice a n cap) L) (hcap : n ≤ cap) (hn : n = L.length) (hnn : (n : Int) ≤ 20040) (hrz : RowIn (fun k => k ≠ d + 1) .i64 w z Z) (hsm2 : (Z.length : Int) ≤ 200) :
    Calls Try.prog 74 #[.pointer (some ⟨d + 1, 0, none⟩), .slice a n cap, z] w (FedP d w.heap.size L w) := by
  obtain ⟨i0, hi, hz0, hz1, hz2⟩ := info_parts info_event
  have hds : d + 1 < w.heap.size := hd.lt
  obtain ⟨s, hs⟩ : ∃ s, s = w.heap.size := ⟨_, rfl⟩
  obtain ⟨az, cz, rfl, hrowz⟩ := hrz
  obtain ⟨m, hm⟩ : ∃ m, m = Z.length := ⟨_, rfl⟩
  have b6 := below_alloc w (.cells #[] 26)
  have p6 := parts0 (s := w.heap.size) (w := w) (Nat.le_refl _)
  have z6 := World.size_alloc w (.cells #[] 26)
  obtain ⟨W6, hW6⟩ : ∃ W6, W6 = w.alloc (.cells #[] 26) := ⟨_, rfl⟩
  rw [← hW6] at b6 p6 z6
  have t6 : Turn (fun k => k = d + 1 ∨ s ≤ k) w W6 := ⟨b6.os, b6.tape, b6.output, b6.size, fun k hk _ => b6.block k hk⟩
  rw [← hs] at p6 hds
  have hs6 : s ≤ W6.heap.size := by omega
  have HT6 := Lib.hid t6
  have HP6 := Lib.hid p6
  have HR6 := Lib.hid (hr.below b6)
  have HD6 := Lib.hid (hd.below b6)
  have HN := Lib.hid hn
  have HM := Lib.hid hm
  have HRZ := Lib.hid hrowz
  have HW6 := Lib.hid hW6.symm
  have HS := Lib.hid hs.symm
  have HSE := Lib.hid hs
  have HRW := Lib.hid hrowz
  rw [← hm] at hsm2 ⊢
  rw [← hs]
  clear hn hm hrowz hW6 hs b6 p6 z6 t6 hd hr
  go_enter Try.func74, Try.ntmps74
  go_upto_region 2 with fail
  rw [HW6.out, HS.out]
  go_wp2_with fail
  go_loopw [1, 7, 13] (fun rest parts i wr => CSRel s d L W6 n m parts rest i wr) (fun _ _ i _ => m - (intOf i).toNat)
  case atStart => exact ⟨0, 0, n, cap, a, [], dec0, by omega, rfl, rfl, by omega, hcap, HR6.out, HD6.out, by simp [dec0], HP6.out, ⟨rfl, rfl⟩, by simp, by simp [totE, pend, dec0], Turn.refl _ _⟩
  case round =>
    obtain ⟨j, c, r, kc, ra, P, De, hj, rfl, rfl, hcr, hrk, hCR⟩ := hrel
    have hsz : s ≤ wr.heap.size := Nat.le_trans hs6 hCR.t.size
    have HOLD := Lib.hid (HT6.out.trans hCR.t)
    have HCR := Lib.hid hCR
    have hpl : P.length ≤ 50000 := by have := hCR.len; omega
    obtain ⟨pa, pc, rfl⟩ := row_form hCR.parts.row
    obtain ⟨pl, hpl2⟩ : ∃ pl, pl = P.length := ⟨_, rfl⟩
    rw [← hpl2] at hpl HCR
    have HPL := Lib.hid hpl2
    rw [← hpl2]
    clear hCR hpl2
    have hri : (0 : Int) ≤ r := Int.natCast_nonneg _
    have hrki : (r : Int) ≤ kc := by omega
    by_cases hjm : j < m
    · have hjl : j < Z.length := by rw [← HM.out]; exact hjm
      obtain ⟨gz, oz, rfl, hgd, hgl, hcz⟩ := HRZ.out (by intro e; rw [e] at hjl; simp at hjl)
      have dz := (turn_cell HOLD.out gz (oz + j) hgl (by have := HSE.out; omega)).trans (hcz j hjl)
      obtain ⟨x, hx⟩ : ∃ x, x = Z[j]?.getD 0 := ⟨_, rfl⟩
      rw [← hx] at dz
      clear hcz hjl hx hgd hgl
      obtain ⟨q, hq, hqb⟩ : ∃ q : Nat, x % 64 = (q : Int) ∧ q ≤ 63 := ⟨(x % 64).toNat, by omega, by omega⟩
      have hand : bits BinOp.and IntKind.i64 x 63 = (q : Int) := (and63 x).trans hq
      clear hq
      by_cases hqr : q ≤ r
      · skip
        have hqi : (q : Int) ≤ r := by omega
        by_cases hkk : q = kc
        · obtain rfl : q = r := by omega
          subst hkk
          clear hqr hrk hrki
          have hrest : ∀ a' c', RowIn (fun k => k < d + 1) .u8 wr (.slice a' 0 c') (L.drop (c + q)) := fun a' c' => by
            have h1 : L.drop (c + q) = [] := List.drop_eq_nil_of_le (by have := HN.out; omega)
            rw [h1]
            exact RowIn.zero a' c'
          have HREST := Lib.hid hrest
          clear hrest
          go_wp2_with fail
          refine (feed_any (d + 1) De _ ((L.drop c).take q) wr HCR.out.dec HCR.out.st ((RowIn.takeTo HCR.out.rest q (by omega)).mono fun k hk => by omega) (by rw [List.length_take]; omega)).mono ?_
          rintro e W7 ⟨v7, P7, rfl, hD7, hE7, hP7, hT7⟩
          have hpw := HCR.out.parts.turn hT7 (fun k hk => by omega)
          have hraw := hpw.row
          rw [← HPL.out] at hraw
          have hs7 : s ≤ W7.heap.size := by have := hT7.size; omega
          have hp7 : P7.length ≤ 50000 := by
            have h1 := (feedD_fine De ((L.drop c).take q) HCR.out.st (by obtain ⟨A, _, k⟩ := HCR.out.dec; exact k.le)).many
            rw [← hP7, List.length_map, List.length_take] at h1
            omega
          have HD7 := Lib.hid hD7
          have HE7 := Lib.hid hE7
          have HP7 := Lib.hid hP7
          have HT7 := Lib.hid hT7
          have HPW := Lib.hid hpw
          clear hD7 hP7 hT7 hpw
          rcases hE7.slice with ⟨rfl, rfl⟩ | ⟨g7, c7, rfl, _, _⟩
          · clear hE7
            go_wp2_with (at_builtin; refine wpList_append_own_none rfl _ _ 22 rfl s 26 i0 4 Try.underlying22 hi _ _ _ rfl hraw rfl ?_)
            go_roundw
            case rel => exact ⟨j + 1, c + q, _, _, _, P ++ [], _, by omega, by go_num, rfl, by omega, by omega, CS.next HCR.out HN.out hcr (by omega) hds hsz HD7.out HE7.out HP7.out HT7.out (more_none HPW.out) (grown_refl _ _) (HREST.out _ _)⟩
            case measure => simp [intOf]; omega
          · have hc7 : ∀ (i : Nat) (y : Value), (evC P7)[i]? = some y → W7.cell? ((⟨g7, 0, none⟩ : Addr).add i) = some y := fun i y hy => World.ownsRow.cells hE7.row (g := g7) rfl i y hy
            have HC7 := Lib.hid hc7
            obtain ⟨m7, hm7⟩ : ∃ m7, m7 = P7.length := ⟨_, rfl⟩
            have hl7 : (evC P7).length = m7 * 4 := by rw [evC_length, hm7]
            rw [← hm7] at hp7
            have HM7 := Lib.hid hm7
            rw [← hm7]
            clear hE7 hc7 hm7
            go_wp2_with (at_builtin; refine wpList_append_own _ rfl _ _ 22 rfl s 26 i0 (.agg #[.int .i64 0, .int .u8 0, .int .u8 0, .slice none 0 0]) 4 40 Try.underlying22 hi hz0 hz1 hz2 rfl (by decide) _ _ _ rfl hraw ⟨g7, 0, none⟩ m7 c7 (evC P7) rfl hl7 HC7.out (evC_one HE7.out) (by unfold maxLen; omega) (by omega) (by omega) ?_; intro v' w8 hown' hgrow _)
            go_roundw
            case rel => exact ⟨j + 1, c + q, _, _, _, P ++ P7, _, by omega, by go_num, rfl, by omega, by omega, CS.next HCR.out HN.out hcr (by omega) hds hsz HD7.out HE7.out HP7.out HT7.out (by rw [← HPL.out, ← HM7.out]; exact hown') hgrow (HREST.out _ _)⟩
            case measure => simp [intOf]; omega
        · have hkk2 : q < kc := by omega
          have hkk3 : (q : Int) < kc := by omega
          rcases ra with _ | ad
          · have hr0 : r = 0 := by
              have := HCR.out.rest
              obtain ⟨a', c', e', hx⟩ := this
              injection e' with e1 e2 e3
              by_cases hd0 : L.drop c = []
              · rw [hd0] at e2; exact e2
              · obtain ⟨_, _, e4, _⟩ := hx hd0
                rw [← e1] at e4; cases e4
            subst hr0
            obtain rfl : q = 0 := by omega
            clear hqr
            have hrest : ∀ a' c', RowIn (fun k => k < d + 1) .u8 wr (.slice a' 0 c') (L.drop (c + 0)) := fun a' c' => by
              have h1 : L.drop (c + 0) = [] := List.drop_eq_nil_of_le (by have := HN.out; omega)
              rw [h1]
              exact RowIn.zero a' c'
            have HREST := Lib.hid hrest
            clear hrest
            go_wp2_with fail
            refine (feed_any (d + 1) De _ ((L.drop c).take 0) wr HCR.out.dec HCR.out.st ((RowIn.takeTo HCR.out.rest 0 (by omega)).mono fun k hk => by omega) (by rw [List.length_take]; omega)).mono ?_
            rintro e W7 ⟨v7, P7, rfl, hD7, hE7, hP7, hT7⟩
            have hpw := HCR.out.parts.turn hT7 (fun k hk => by omega)
            have hraw := hpw.row
            rw [← HPL.out] at hraw
            have hs7 : s ≤ W7.heap.size := by have := hT7.size; omega
            have hp7 : P7.length ≤ 50000 := by
              have h1 := (feedD_fine De ((L.drop c).take 0) HCR.out.st (by obtain ⟨A, _, k⟩ := HCR.out.dec; exact k.le)).many
              rw [← hP7, List.length_map, List.length_take] at h1
              omega
            have HD7 := Lib.hid hD7
            have HE7 := Lib.hid hE7
            have HP7 := Lib.hid hP7
            have HT7 := Lib.hid hT7
            have HPW := Lib.hid hpw
            clear hD7 hP7 hT7 hpw
            rcases hE7.slice with ⟨rfl, rfl⟩ | ⟨g7, c7, rfl, _, _⟩
            · clear hE7
              go_wp2_with (at_builtin; refine wpList_append_own_none rfl _ _ 22 rfl s 26 i0 4 Try.underlying22 hi _ _ _ rfl hraw rfl ?_)
              go_roundw
              case rel => exact ⟨j + 1, c + 0, _, _, _, P ++ [], _, by omega, by go_num, rfl, by omega, by omega, CS.next HCR.out HN.out hcr (by omega) hds hsz HD7.out HE7.out HP7.out HT7.out (more_none HPW.out) (grown_refl _ _) (HREST.out _ _)⟩
              case measure => simp [intOf]; omega
            · have hc7 : ∀ (i : Nat) (y : Value), (evC P7)[i]? = some y → W7.cell? ((⟨g7, 0, none⟩ : Addr).add i) = some y := fun i y hy => World.ownsRow.cells hE7.row (g := g7) rfl i y hy
              have HC7 := Lib.hid hc7
              obtain ⟨m7, hm7⟩ : ∃ m7, m7 = P7.length := ⟨_, rfl⟩
              have hl7 : (evC P7).length = m7 * 4 := by rw [evC_length, hm7]
              rw [← hm7] at hp7
              have HM7 := Lib.hid hm7
              rw [← hm7]
              clear hE7 hc7 hm7
              go_wp2_with (at_builtin; refine wpList_append_own _ rfl _ _ 22 rfl s 26 i0 (.agg #[.int .i64 0, .int .u8 0, .int .u8 0, .slice none 0 0]) 4 40 Try.underlying22 hi hz0 hz1 hz2 rfl (by decide) _ _ _ rfl hraw ⟨g7, 0, none⟩ m7 c7 (evC P7) rfl hl7 HC7.out (evC_one HE7.out) (by unfold maxLen; omega) (by omega) (by omega) ?_; intro v' w8 hown' hgrow _)
              go_roundw
              case rel => exact ⟨j + 1, c + 0, _, _, _, P ++ P7, _, by omega, by go_num, rfl, by omega, by omega, CS.next HCR.out HN.out hcr (by omega) hds hsz HD7.out HE7.out HP7.out HT7.out (by rw [← HPL.out, ← HM7.out]; exact hown') hgrow (HREST.out _ _)⟩
              case measure => simp [intOf]; omega
          · skip
            have hrest : RowIn (fun k => k < d + 1) .u8 wr (.slice (some (ad.add q)) (r - q) (kc - q)) (L.drop (c + q)) := by
              have := RowIn.dropTo HCR.out.rest q (by omega) (kc - q)
              rw [List.drop_drop] at this
              exact this
            have HREST := Lib.hid hrest
            clear hrest
            go_wp2_with fail
            refine (feed_any (d + 1) De _ ((L.drop c).take q) wr HCR.out.dec HCR.out.st ((RowIn.takeTo HCR.out.rest q (by omega)).mono fun k hk => by omega) (by rw [List.length_take]; omega)).mono ?_
            rintro e W7 ⟨v7, P7, rfl, hD7, hE7, hP7, hT7⟩
            have hpw := HCR.out.parts.turn hT7 (fun k hk => by omega)
            have hraw := hpw.row
            rw [← HPL.out] at hraw
            have hs7 : s ≤ W7.heap.size := by have := hT7.size; omega
            have hp7 : P7.length ≤ 50000 := by
              have h1 := (feedD_fine De ((L.drop c).take q) HCR.out.st (by obtain ⟨A, _, k⟩ := HCR.out.dec; exact k.le)).many
              rw [← hP7, List.length_map, List.length_take] at h1
              omega
            have HD7 := Lib.hid hD7
            have HE7 := Lib.hid hE7
            have HP7 := Lib.hid hP7
            have HT7 := Lib.hid hT7
            have HPW := Lib.hid hpw
            clear hD7 hP7 hT7 hpw
            rcases hE7.slice with ⟨rfl, rfl⟩ | ⟨g7, c7, rfl, _, _⟩
            · clear hE7
              go_wp2_with (at_builtin; refine wpList_append_own_none rfl _ _ 22 rfl s 26 i0 4 Try.underlying22 hi _ _ _ rfl hraw rfl ?_)
              go_roundw
              case rel => exact ⟨j + 1, c + q, _, _, _, P ++ [], _, by omega, by go_num, rfl, by omega, by omega, CS.next HCR.out HN.out hcr (by omega) hds hsz HD7.out HE7.out HP7.out HT7.out (more_none HPW.out) (grown_refl _ _) HREST.out⟩
              case measure => simp [intOf]; omega
            · have hc7 : ∀ (i : Nat) (y : Value), (evC P7)[i]? = some y → W7.cell? ((⟨g7, 0, none⟩ : Addr).add i) = some y := fun i y hy => World.ownsRow.cells hE7.row (g := g7) rfl i y hy
              have HC7 := Lib.hid hc7
              obtain ⟨m7, hm7⟩ : ∃ m7, m7 = P7.length := ⟨_, rfl⟩
              have hl7 : (evC P7).length = m7 * 4 := by rw [evC_length, hm7]
              rw [← hm7] at hp7
              have HM7 := Lib.hid hm7
              rw [← hm7]
              clear hE7 hc7 hm7
              go_wp2_with (at_builtin; refine wpList_append_own _ rfl _ _ 22 rfl s 26 i0 (.agg #[.int .i64 0, .int .u8 0, .int .u8 0, .slice none 0 0]) 4 40 Try.underlying22 hi hz0 hz1 hz2 rfl (by decide) _ _ _ rfl hraw ⟨g7, 0, none⟩ m7 c7 (evC P7) rfl hl7 HC7.out (evC_one HE7.out) (by unfold maxLen; omega) (by omega) (by omega) ?_; intro v' w8 hown' hgrow _)
              go_roundw
              case rel => exact ⟨j + 1, c + q, _, _, _, P ++ P7, _, by omega, by go_num, rfl, by omega, by omega, CS.next HCR.out HN.out hcr (by omega) hds hsz HD7.out HE7.out HP7.out HT7.out (by rw [← HPL.out, ← HM7.out]; exact hown') hgrow HREST.out⟩
              case measure => simp [intOf]; omega
      · skip
        have hqi : (r : Int) < q := by omega
        have hqn : r < q := by omega
        clear hqr
        by_cases hkk : r = kc
        · subst hkk
          clear hrk hrki
          have hrest : ∀ a' c', RowIn (fun k => k < d + 1) .u8 wr (.slice a' 0 c') (L.drop (c + r)) := fun a' c' => by
            have h1 : L.drop (c + r) = [] := List.drop_eq_nil_of_le (by have := HN.out; omega)
            rw [h1]
            exact RowIn.zero a' c'
          have HREST := Lib.hid hrest
          clear hrest
          go_wp2_with fail
          refine (feed_any (d + 1) De _ ((L.drop c).take r) wr HCR.out.dec HCR.out.st ((RowIn.takeTo HCR.out.rest r (by omega)).mono fun k hk => by omega) (by rw [List.length_take]; omega)).mono ?_
          rintro e W7 ⟨v7, P7, rfl, hD7, hE7, hP7, hT7⟩
          have hpw := HCR.out.parts.turn hT7 (fun k hk => by omega)
          have hraw := hpw.row
          rw [← HPL.out] at hraw
          have hs7 : s ≤ W7.heap.size := by have := hT7.size; omega
          have hp7 : P7.length ≤ 50000 := by
            have h1 := (feedD_fine De ((L.drop c).take r) HCR.out.st (by obtain ⟨A, _, k⟩ := HCR.out.dec; exact k.le)).many
            rw [← hP7, List.length_map, List.length_take] at h1
            omega
          have HD7 := Lib.hid hD7
          have HE7 := Lib.hid hE7
          have HP7 := Lib.hid hP7
          have HT7 := Lib.hid hT7
          have HPW := Lib.hid hpw
          clear hD7 hP7 hT7 hpw
          rcases hE7.slice with ⟨rfl, rfl⟩ | ⟨g7, c7, rfl, _, _⟩
          · clear hE7
            go_wp2_with (at_builtin; refine wpList_append_own_none rfl _ _ 22 rfl s 26 i0 4 Try.underlying22 hi _ _ _ rfl hraw rfl ?_)
            go_roundw
            case rel => exact ⟨j + 1, c + r, _, _, _, P ++ [], _, by omega, by go_num, rfl, by omega, by omega, CS.next HCR.out HN.out hcr (by omega) hds hsz HD7.out HE7.out HP7.out HT7.out (more_none HPW.out) (grown_refl _ _) (HREST.out _ _)⟩
            case measure => simp [intOf]; omega
          · have hc7 : ∀ (i : Nat) (y : Value), (evC P7)[i]? = some y → W7.cell? ((⟨g7, 0, none⟩ : Addr).add i) = some y := fun i y hy => World.ownsRow.cells hE7.row (g := g7) rfl i y hy
            have HC7 := Lib.hid hc7
            obtain ⟨m7, hm7⟩ : ∃ m7, m7 = P7.length := ⟨_, rfl⟩
            have hl7 : (evC P7).length = m7 * 4 := by rw [evC_length, hm7]
            rw [← hm7] at hp7
            have HM7 := Lib.hid hm7
            rw [← hm7]
            clear hE7 hc7 hm7
            go_wp2_with (at_builtin; refine wpList_append_own _ rfl _ _ 22 rfl s 26 i0 (.agg #[.int .i64 0, .int .u8 0, .int .u8 0, .slice none 0 0]) 4 40 Try.underlying22 hi hz0 hz1 hz2 rfl (by decide) _ _ _ rfl hraw ⟨g7, 0, none⟩ m7 c7 (evC P7) rfl hl7 HC7.out (evC_one HE7.out) (by unfold maxLen; omega) (by omega) (by omega) ?_; intro v' w8 hown' hgrow _)
            go_roundw
            case rel => exact ⟨j + 1, c + r, _, _, _, P ++ P7, _, by omega, by go_num, rfl, by omega, by omega, CS.next HCR.out HN.out hcr (by omega) hds hsz HD7.out HE7.out HP7.out HT7.out (by rw [← HPL.out, ← HM7.out]; exact hown') hgrow (HREST.out _ _)⟩
            case measure => simp [intOf]; omega
        · have hkk2 : r < kc := by omega
          have hkk3 : (r : Int) < kc := by omega
          rcases ra with _ | ad
          · have hr0 : r = 0 := by
              have := HCR.out.rest
              obtain ⟨a', c', e', hx⟩ := this
              injection e' with e1 e2 e3
              by_cases hd0 : L.drop c = []
              · rw [hd0] at e2; exact e2
              · obtain ⟨_, _, e4, _⟩ := hx hd0
                rw [← e1] at e4; cases e4
            subst hr0
            skip
            have hrest : ∀ a' c', RowIn (fun k => k < d + 1) .u8 wr (.slice a' 0 c') (L.drop (c + 0)) := fun a' c' => by
              have h1 : L.drop (c + 0) = [] := List.drop_eq_nil_of_le (by have := HN.out; omega)
              rw [h1]
              exact RowIn.zero a' c'
            have HREST := Lib.hid hrest
            clear hrest
            go_wp2_with fail
            refine (feed_any (d + 1) De _ ((L.drop c).take 0) wr HCR.out.dec HCR.out.st ((RowIn.takeTo HCR.out.rest 0 (by omega)).mono fun k hk => by omega) (by rw [List.length_take]; omega)).mono ?_
            rintro e W7 ⟨v7, P7, rfl, hD7, hE7, hP7, hT7⟩
            have hpw := HCR.out.parts.turn hT7 (fun k hk => by omega)
            have hraw := hpw.row
            rw [← HPL.out] at hraw
            have hs7 : s ≤ W7.heap.size := by have := hT7.size; omega
            have hp7 : P7.length ≤ 50000 := by
              have h1 := (feedD_fine De ((L.drop c).take 0) HCR.out.st (by obtain ⟨A, _, k⟩ := HCR.out.dec; exact k.le)).many
              rw [← hP7, List.length_map, List.length_take] at h1
              omega
            have HD7 := Lib.hid hD7
            have HE7 := Lib.hid hE7
            have HP7 := Lib.hid hP7
            have HT7 := Lib.hid hT7
            have HPW := Lib.hid hpw
            clear hD7 hP7 hT7 hpw
            rcases hE7.slice with ⟨rfl, rfl⟩ | ⟨g7, c7, rfl, _, _⟩
            · clear hE7
              go_wp2_with (at_builtin; refine wpList_append_own_none rfl _ _ 22 rfl s 26 i0 4 Try.underlying22 hi _ _ _ rfl hraw rfl ?_)
              go_roundw
              case rel => exact ⟨j + 1, c + 0, _, _, _, P ++ [], _, by omega, by go_num, rfl, by omega, by omega, CS.next HCR.out HN.out hcr (by omega) hds hsz HD7.out HE7.out HP7.out HT7.out (more_none HPW.out) (grown_refl _ _) (HREST.out _ _)⟩
              case measure => simp [intOf]; omega
            · have hc7 : ∀ (i : Nat) (y : Value), (evC P7)[i]? = some y → W7.cell? ((⟨g7, 0, none⟩ : Addr).add i) = some y := fun i y hy => World.ownsRow.cells hE7.row (g := g7) rfl i y hy
              have HC7 := Lib.hid hc7
              obtain ⟨m7, hm7⟩ : ∃ m7, m7 = P7.length := ⟨_, rfl⟩
              have hl7 : (evC P7).length = m7 * 4 := by rw [evC_length, hm7]
              rw [← hm7] at hp7
              have HM7 := Lib.hid hm7
              rw [← hm7]
              clear hE7 hc7 hm7
              go_wp2_with (at_builtin; refine wpList_append_own _ rfl _ _ 22 rfl s 26 i0 (.agg #[.int .i64 0, .int .u8 0, .int .u8 0, .slice none 0 0]) 4 40 Try.underlying22 hi hz0 hz1 hz2 rfl (by decide) _ _ _ rfl hraw ⟨g7, 0, none⟩ m7 c7 (evC P7) rfl hl7 HC7.out (evC_one HE7.out) (by unfold maxLen; omega) (by omega) (by omega) ?_; intro v' w8 hown' hgrow _)
              go_roundw
              case rel => exact ⟨j + 1, c + 0, _, _, _, P ++ P7, _, by omega, by go_num, rfl, by omega, by omega, CS.next HCR.out HN.out hcr (by omega) hds hsz HD7.out HE7.out HP7.out HT7.out (by rw [← HPL.out, ← HM7.out]; exact hown') hgrow (HREST.out _ _)⟩
              case measure => simp [intOf]; omega
          · skip
            have hrest : ∀ a' c', RowIn (fun k => k < d + 1) .u8 wr (.slice a' 0 c') (L.drop (c + r)) := fun a' c' => by
              have h1 : L.drop (c + r) = [] := List.drop_eq_nil_of_le (by have := HN.out; omega)
              rw [h1]
              exact RowIn.zero a' c'
            have HREST := Lib.hid hrest
            clear hrest
            go_wp2_with fail
            refine (feed_any (d + 1) De _ ((L.drop c).take r) wr HCR.out.dec HCR.out.st ((RowIn.takeTo HCR.out.rest r (by omega)).mono fun k hk => by omega) (by rw [List.length_take]; omega)).mono ?_
            rintro e W7 ⟨v7, P7, rfl, hD7, hE7, hP7, hT7⟩
            have hpw := HCR.out.parts.turn hT7 (fun k hk => by omega)
            have hraw := hpw.row
            rw [← HPL.out] at hraw
            have hs7 : s ≤ W7.heap.size := by have := hT7.size; omega
            have hp7 : P7.length ≤ 50000 := by
              have h1 := (feedD_fine De ((L.drop c).take r) HCR.out.st (by obtain ⟨A, _, k⟩ := HCR.out.dec; exact k.le)).many
              rw [← hP7, List.length_map, List.length_take] at h1
              omega
            have HD7 := Lib.hid hD7
            have HE7 := Lib.hid hE7
            have HP7 := Lib.hid hP7
            have HT7 := Lib.hid hT7
            have HPW := Lib.hid hpw
            clear hD7 hP7 hT7 hpw
            rcases hE7.slice with ⟨rfl, rfl⟩ | ⟨g7, c7, rfl, _, _⟩
            · clear hE7
              go_wp2_with (at_builtin; refine wpList_append_own_none rfl _ _ 22 rfl s 26 i0 4 Try.underlying22 hi _ _ _ rfl hraw rfl ?_)
              go_roundw
              case rel => exact ⟨j + 1, c + r, _, _, _, P ++ [], _, by omega, by go_num, rfl, by omega, by omega, CS.next HCR.out HN.out hcr (by omega) hds hsz HD7.out HE7.out HP7.out HT7.out (more_none HPW.out) (grown_refl _ _) (HREST.out _ _)⟩
              case measure => simp [intOf]; omega
            · have hc7 : ∀ (i : Nat) (y : Value), (evC P7)[i]? = some y → W7.cell? ((⟨g7, 0, none⟩ : Addr).add i) = some y := fun i y hy => World.ownsRow.cells hE7.row (g := g7) rfl i y hy
              have HC7 := Lib.hid hc7
              obtain ⟨m7, hm7⟩ : ∃ m7, m7 = P7.length := ⟨_, rfl⟩
              have hl7 : (evC P7).length = m7 * 4 := by rw [evC_length, hm7]
              rw [← hm7] at hp7
              have HM7 := Lib.hid hm7
              rw [← hm7]
              clear hE7 hc7 hm7
              go_wp2_with (at_builtin; refine wpList_append_own _ rfl _ _ 22 rfl s 26 i0 (.agg #[.int .i64 0, .int .u8 0, .int .u8 0, .slice none 0 0]) 4 40 Try.underlying22 hi hz0 hz1 hz2 rfl (by decide) _ _ _ rfl hraw ⟨g7, 0, none⟩ m7 c7 (evC P7) rfl hl7 HC7.out (evC_one HE7.out) (by unfold maxLen; omega) (by omega) (by omega) ?_; intro v' w8 hown' hgrow _)
              go_roundw
              case rel => exact ⟨j + 1, c + r, _, _, _, P ++ P7, _, by omega, by go_num, rfl, by omega, by omega, CS.next HCR.out HN.out hcr (by omega) hds hsz HD7.out HE7.out HP7.out HT7.out (by rw [← HPL.out, ← HM7.out]; exact hown') hgrow (HREST.out _ _)⟩
              case measure => simp [intOf]; omega
    · obtain rfl : m = j := by omega
      have htr : (L.drop c).take r = L.drop c := List.take_of_length_le (by rw [List.length_drop]; have := HN.out; omega)
      have hz0 : L.drop (c + r) = [] := List.drop_eq_nil_of_le (by have := HN.out; omega)
      have HTR := Lib.hid htr
      have HZ0 := Lib.hid hz0
      clear htr hz0
      go_wp2_with fail
      refine (feed_any (d + 1) De _ ((L.drop c).take r) wr HCR.out.dec HCR.out.st (by rw [HTR.out]; exact HCR.out.rest.mono fun k hk => by omega) (by rw [List.length_take]; omega)).mono ?_
      rintro e W7 ⟨v7, P7, rfl, hD7, hE7, hP7, hT7⟩
      have hpw := HCR.out.parts.turn hT7 (fun k hk => by omega)
      have hraw := hpw.row
      rw [← HPL.out] at hraw
      have hs7 : s ≤ W7.heap.size := by have := hT7.size; omega
      have hp7 : P7.length ≤ 50000 := by
        have h1 := (feedD_fine De ((L.drop c).take r) HCR.out.st (by obtain ⟨A, _, k⟩ := HCR.out.dec; exact k.le)).many
        rw [← hP7, List.length_map, List.length_take] at h1
        omega
      have HD7 := Lib.hid hD7
      have HE7 := Lib.hid hE7
      have HP7 := Lib.hid hP7
      have HT7 := Lib.hid hT7
      have HPW := Lib.hid hpw
      clear hD7 hP7 hT7 hpw
      rcases hE7.slice with ⟨rfl, rfl⟩ | ⟨g7, c7, rfl, _, _⟩
      · clear hE7
        go_wp2_with (at_builtin; refine wpList_append_own_none rfl _ _ 22 rfl s 26 i0 4 Try.underlying22 hi _ _ _ rfl hraw rfl ?_)
        have hCF := CS.next (r' := 0) (kc' := 0) (rest' := .slice none 0 0) HCR.out HN.out hcr (Nat.le_refl r) hds hsz HD7.out HE7.out HP7.out HT7.out (more_none HPW.out) (grown_refl _ _) (by rw [HZ0.out]; exact RowIn.zero none 0)
        have HCF := Lib.hid hCF
        clear hCF
        go_wp2_with fail
        go_ret
        exact fed_end HCF.out HN.out hcr HT6.out
      · have hc7 : ∀ (i : Nat) (y : Value), (evC P7)[i]? = some y → W7.cell? ((⟨g7, 0, none⟩ : Addr).add i) = some y := fun i y hy => World.ownsRow.cells hE7.row (g := g7) rfl i y hy
        have HC7 := Lib.hid hc7
        obtain ⟨m7, hm7⟩ : ∃ m7, m7 = P7.length := ⟨_, rfl⟩
        have hl7 : (evC P7).length = m7 * 4 := by rw [evC_length, hm7]
        rw [← hm7] at hp7
        have HM7 := Lib.hid hm7
        rw [← hm7]
        clear hE7 hc7 hm7
        go_wp2_with (at_builtin; refine wpList_append_own _ rfl _ _ 22 rfl s 26 i0 (.agg #[.int .i64 0, .int .u8 0, .int .u8 0, .slice none 0 0]) 4 40 Try.underlying22 hi hz0 hz1 hz2 rfl (by decide) _ _ _ rfl hraw ⟨g7, 0, none⟩ m7 c7 (evC P7) rfl hl7 HC7.out (evC_one HE7.out) (by unfold maxLen; omega) (by omega) (by omega) ?_; intro v' w8 hown' hgrow _; have HCF := Lib.hid (CS.next (r' := 0) (kc' := 0) (rest' := .slice none 0 0) HCR.out HN.out hcr (Nat.le_refl r) hds hsz HD7.out HE7.out HP7.out HT7.out (by rw [← HPL.out, ← HM7.out]; exact hown') hgrow (by rw [HZ0.out]; exact RowIn.zero none 0)); clear hown' hgrow hl7)
        go_ret
        exact fed_end HCF.out HN.out hcr HT6.out
end Go.Proofs.Ytkolhjglehnigaa.Iac
