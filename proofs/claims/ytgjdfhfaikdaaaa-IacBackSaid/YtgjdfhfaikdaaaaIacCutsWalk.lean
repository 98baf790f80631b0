/-
  The walk of IacCuts.
-/
import Derived.Test.YtgjdfhfaikdaaaaCutPlain
import Derived.Test.YtgjdfhfaikdaaaaIacEscapesWalk
namespace Go.Proofs.Ytgjdfhfaikdaaaa.Iac
open Go.RowKit Base
set_option linter.unusedVariables false

theorem i64_mask (n : Int) (m k : Nat) (hk : k ≤ 63) (hm : (BitVec.ofInt 64 (m : Int)).toNat = 2 ^ k - 1) (hp : (2 ^ k : Nat) ≤ 9223372036854775807) : bits .and .i64 n (m : Int) = n % ((2 ^ k : Nat) : Int) := by
  have key : (BitVec.ofInt 64 n &&& BitVec.ofInt 64 (m : Int)).toNat = (n % ((2 ^ 64 : Nat) : Int)).toNat % 2 ^ k := by
    rw [BitVec.toNat_and, BitVec.toNat_ofInt, hm, Nat.and_two_pow_sub_one_eq_mod]
  show IntKind.i64.wrap ((BitVec.ofInt 64 n &&& BitVec.ofInt 64 (m : Int)).toNat : Nat) = n % ((2 ^ k : Nat) : Int)
  rw [key]
  have hpos : 0 < 2 ^ k := Nat.two_pow_pos k
  have hdvd : ((2 ^ k : Nat) : Int) ∣ ((2 ^ 64 : Nat) : Int) := by
    have : 2 ^ k ∣ 2 ^ 64 := Nat.pow_dvd_pow 2 (by omega)
    exact Int.natCast_dvd_natCast.mpr this
  have h0 : 0 ≤ n % ((2 ^ 64 : Nat) : Int) := Int.emod_nonneg _ (by decide)
  have h1 : (((n % ((2 ^ 64 : Nat) : Int)).toNat % 2 ^ k : Nat) : Int) = n % ((2 ^ k : Nat) : Int) := by
    rw [Int.natCast_emod, Int.toNat_of_nonneg h0, Int.emod_emod_of_dvd _ hdvd]
  have h2 : n % ((2 ^ k : Nat) : Int) < ((2 ^ k : Nat) : Int) := Int.emod_lt_of_pos _ (by omega)
  have h3 : 0 ≤ n % ((2 ^ k : Nat) : Int) := Int.emod_nonneg _ (by omega)
  rw [h1]
  exact IntWalk.i64_in _ (by omega)
theorem and255 (n : Int) : bits .and .i64 n 255 = n % 256 := i64_mask n 255 8 (by decide) (by decide) (by decide)
/-- A part of a row, from its beginning, and what is behind it. -/
theorem RowIn.takeTo {S : Nat → Prop} {w : World} {a : Option Addr} {n c : Nat} {L : List Int} (h : RowIn S .u8 w (.slice a n c) L) (m : Nat) (hm : m ≤ n) : RowIn S .u8 w (.slice a m c) (L.take m) := by
  obtain ⟨a', c', e', hr⟩ := h
  injection e' with e1 e2 e3
  subst e1 e3
  have hl : (L.take m).length = m := by rw [List.length_take]; omega
  refine ⟨a, c, by rw [hl], fun hne => ?_⟩
  obtain ⟨b, off, ha, hS, hlt, hc⟩ := hr (by intro e; rw [e] at hne; simp at hne)
  refine ⟨b, off, ha, hS, hlt, fun i hi => ?_⟩
  rw [hl] at hi
  rw [hc i (by omega), List.getElem?_take_of_lt hi]
theorem RowIn.zero {S : Nat → Prop} {w : World} (a : Option Addr) (c : Nat) : RowIn S .u8 w (.slice a 0 c) [] := ⟨a, c, rfl, fun h => absurd rfl h⟩
theorem RowIn.dropTo {S : Nat → Prop} {w : World} {ad : Addr} {n c : Nat} {L : List Int} (h : RowIn S .u8 w (.slice (some ad) n c) L) (m : Nat) (hm : m ≤ n) (c' : Nat) : RowIn S .u8 w (.slice (some (ad.add m)) (n - m) c') (L.drop m) := by
  obtain ⟨a', c0, e', hr⟩ := h
  injection e' with e1 e2 e3
  subst e1
  have hl : (L.drop m).length = n - m := by rw [List.length_drop, ← e2]
  refine ⟨_, c', by rw [hl], fun hne => ?_⟩
  have hne' : L ≠ [] := by intro e; rw [e] at hne; simp at hne
  obtain ⟨b, off, ha, hS, hlt, hc⟩ := hr hne'
  cases ha
  refine ⟨b, off + m, ?_, hS, hlt, fun i hi => ?_⟩
  · unfold Addr.add; split <;> simp_all
  · rw [hl] at hi
    rw [List.getElem?_drop, show off + m + i = off + (m + i) by omega]
    exact hc (m + i) (by omega)
/-- Two decoders and the bytes. -/
structure EC2 (w : World) (d : Nat) (v : Value) (L : List Int) (D1 D2 : Dec) (W : World) : Prop where
  row : RowIn (fun k => k < d) .u8 W v L
  d1 : DecAt W d D1
  d2 : DecAt W (d + 1) D2
  old : Below w.heap.size w W
  lo : w.heap.size ≤ d
section
variable {w W W' : World} {d : Nat} {v : Value} {L : List Int} {D1 D2 D : Dec}
theorem EC2.lt (h : EC2 w d v L D1 D2 W) : d + 1 < W.heap.size := h.d2.lt
theorem EC2.below (h : EC2 w d v L D1 D2 W) (t : Below W.heap.size W W') : EC2 w d v L D1 D2 W' :=
  ⟨h.row.below t, h.d1.below t, h.d2.below t, h.old.trans (t.mono h.old.size), h.lo⟩
theorem EC2.turn1 (h : EC2 w d v L D1 D2 W) (t : Turn (fun k => k = d ∨ W.heap.size ≤ k) W W') (hd : DecAt W' d D) : EC2 w d v L D D2 W' := by
  have := h.lt; have := h.lo
  exact ⟨h.row.turn t fun b hb => by omega, hd, h.d2.turn t (by omega), h.old.trans (t.below h.old.size fun k hk => by omega), h.lo⟩
/-- .. from a place of memory s on, and the second decoder. -/
theorem EC2.turn2 {s : Nat} (h : EC2 w d v L D1 D2 W) (hs : d + 1 < s) (hs2 : s ≤ W.heap.size) (t : Turn (fun k => k = d + 1 ∨ s ≤ k) W W') (hd : DecAt W' (d + 1) D) : EC2 w d v L D1 D W' := by
  have := h.lo
  have hb : ∀ k, k < w.heap.size → W'.heap[k]? = W.heap[k]? := fun k hk => t.block k (by have := h.old.size; omega) (by omega)
  exact ⟨h.row.turn t fun b hb => by omega, h.d1.turn t (by omega), hd, h.old.trans ⟨t.os, t.tape, t.output, t.size, fun k hk => hb k hk⟩, h.lo⟩
end
theorem ec2_new (w W1 : World) (v : Value) (L : List Int) (hr : RowOf .u8 w v L) (hb : Below w.heap.size w W1) : EC2 w W1.heap.size v L dec0 dec0 ((W1.alloc (.cells zdec 29)).alloc (.cells zdec 29)) := by
  have b1 := below_alloc W1 (.cells zdec 29)
  have b2 := below_alloc (W1.alloc (.cells zdec 29)) (.cells zdec 29)
  have s1 := World.size_alloc W1 (.cells zdec 29)
  have d2 := dec_new (W1.alloc (.cells zdec 29))
  have hlo := hb.size
  rw [s1] at d2
  have hrow : RowIn (fun k => k < W1.heap.size) .u8 W1 v L := (hr.below hb).lowK
  exact ⟨(hrow.below b1).below b2, (dec_new W1).below b2, d2, (hb.trans (b1.mono hlo)).trans (b2.mono (by omega)), hlo⟩
/-- A row of events of the call's own, whose bytes are so, too. -/
structure PartsAt (s : Nat) (w : World) (v : Value) (P : List EvP) : Prop where
  row : w.ownsRow s 38 4 v P.length (evC P)
  own : ∀ p ∈ P, OwnBytes s w p.2 p.1.bytes
theorem PartsAt.turn {s : Nat} {w w' : World} {v : Value} {P : List EvP} {T : Nat → Prop} (h : PartsAt s w v P) (t : Turn T w w') (hT : ∀ k, T k → k < s ∨ w.heap.size ≤ k) : PartsAt s w' v P := by
  have hk : ∀ g, s ≤ g → g < w.heap.size → w'.heap[g]? = w.heap[g]? := fun g hs hl => t.block g hl fun e => by have := hT g e; omega
  exact ⟨ownsRow_keep h.row fun g _ => hk g, fun p hp => (h.own p hp).keep hk⟩
theorem PartsAt.below {s : Nat} {w w' : World} {v : Value} {P : List EvP} (h : PartsAt s w v P) (t : Below w.heap.size w w') : PartsAt s w' v P :=
  ⟨ownsRow_keep h.row fun g _ _ hl => t.block g hl, fun p hp => (h.own p hp).below t⟩
theorem PartsAt.evsAt {s : Nat} {w : World} {v : Value} {P : List EvP} (h : PartsAt s w v P) : EvsAt w v (P.map (·.1)) := by
  rcases h.row.2 with ⟨rfl, h0⟩ | ⟨g, cap, cur, rfl, hg, hgb, _⟩
  · exact ⟨none, 0, by simp [h0], fun hne => absurd (by simpa using h0) hne⟩
  · refine ⟨_, cap, by simp, fun _ => ⟨g, 0, rfl, lt_of_block hgb, fun i e hi => ?_⟩⟩
    rw [List.getElem?_map] at hi
    obtain ⟨p, hp, rfl⟩ := Option.map_eq_some_iff.1 hi
    obtain ⟨a0, a1, a2, a3⟩ := evC_get P i p hp
    obtain ⟨hlt, _⟩ := List.getElem?_eq_some_iff.1 hp
    have hr := h.row
    rw [Nat.zero_add]
    exact ⟨p.2, (hr.cellAt _ (by omega)).trans a0, (hr.cellAt _ (by omega)).trans a1, (hr.cellAt _ (by omega)).trans a2, (hr.cellAt _ (by omega)).trans a3, (h.own p (List.mem_of_getElem? hp)).row⟩
theorem evC_one {s : Nat} {w : World} {v : Value} {P : List EvP} (h : EvsOwn s w v P) : ∀ u ∈ evC P, u.oneCell' = true := by
  intro u hu
  unfold evC at hu
  obtain ⟨p, hp, hu⟩ := List.mem_flatMap.1 hu
  simp at hu
  rcases hu with rfl | rfl | rfl | rfl
  · rfl
  · rfl
  · rfl
  · obtain ⟨a, c, e⟩ := (h.own p hp).slice
    rw [e]; rfl
/-- Events laid behind others. -/
theorem PartsAt.more {s s2 : Nat} {w w1 : World} {v v' v2 : Value} {P P2 : List EvP} (h : PartsAt s w v P) (h2 : EvsOwn s2 w v2 P2) (hs : s ≤ s2) (hown : w1.ownsRow s 38 4 v' (P.length + P2.length) (evC P ++ evC P2)) (hg : w.grownBy w1 v.ownBlock) : PartsAt s w1 v' (P ++ P2) := by
  refine ⟨by rw [List.length_append, evC_append]; exact hown, fun p hp => ?_⟩
  have hk : ∀ {q : Value} {L : List Int}, OwnBytes s w q L → OwnBytes s w1 q L := fun {q L} hq =>
    ownsRow_keep hq fun g hqg _ hl => hg.block g hl fun ee => ev_ne h.row hq g ee.symm hqg
  rcases List.mem_append.1 hp with hp | hp
  · exact hk (h.own p hp)
  · exact hk ((h2.own p hp).lower hs)
theorem parts0 {s : Nat} {w : World} (h : s ≤ w.heap.size) : PartsAt s (w.alloc (.cells #[] 38)) (.slice (some ⟨w.heap.size, 0, none⟩) 0 0) [] :=
  ⟨⟨rfl, .inr ⟨w.heap.size, 0, #[], rfl, h, heap_alloc_new w _, by simp, by simp [maxLen], rfl, by simp [evC]⟩⟩, by simp⟩
theorem totE_append (A B : List Ev) : totE (A ++ B) = totE A + totE B := by simp [totE]
/-- What a round of the parts finds. -/
structure CR (s d : Nat) (L : List Int) (W6 : World) (c r kc : Nat) (rest parts : Value) (P : List EvP) (De : Dec) (wr : World) : Prop where
  rest : RowIn (fun k => k < d) .u8 wr rest (L.drop c)
  dec : DecAt wr (d + 1) De
  st : De.state ≤ 4
  parts : PartsAt s wr parts P
  ok : PartsOk De (P.map (·.1)) (L.take c)
  len : P.length ≤ 2 * c
  tot : totE (P.map (·.1)) + pend De ≤ c
  t : Turn (fun k => k = d + 1 ∨ s ≤ k) W6 wr
def CutRel (s d : Nat) (L : List Int) (W6 : World) (n m : Nat) (parts rest i : Value) (wr : World) : Prop :=
  ∃ (j c r kc : Nat) (ra : Option Addr) (P : List EvP) (De : Dec), j ≤ m ∧ i = .int .i64 j ∧ rest = .slice ra r kc ∧ c + r = n ∧ r ≤ kc ∧ CR s d L W6 c r kc rest parts P De wr
/-- A part more. -/
theorem CR.next {s d c r kc p r' kc' : Nat} {L : List Int} {W6 wr W2 w5 : World} {rest rest' parts parts' v2 : Value} {P P2 : List EvP} {De : Dec} {n : Nat}
    (h : CR s d L W6 c r kc rest parts P De wr) (hn : n = L.length) (hcr : c + r = n) (hp : p ≤ r) (hds : d + 1 < s) (hs : s ≤ wr.heap.size)
    (hD : DecAt W2 (d + 1) (feedD De ((L.drop c).take p)).1) (hE : EvsOwn wr.heap.size W2 v2 P2) (hP2 : P2.map (·.1) = (feedD De ((L.drop c).take p)).2) (hT : Turn (fun k => k = d + 1 ∨ wr.heap.size ≤ k) wr W2)
    (hown : w5.ownsRow s 38 4 parts' (P.length + P2.length) (evC P ++ evC P2)) (hg : W2.grownBy w5 parts.ownBlock)
    (hrest : RowIn (fun k => k < d) .u8 wr rest' (L.drop (c + p))) : CR s d L W6 (c + p) r' kc' rest' parts' (P ++ P2) (feedD De ((L.drop c).take p)).1 w5 := by
  have hlen : ((L.drop c).take p).length = p := by rw [List.length_take, List.length_drop]; omega
  have hfine := feedD_fine De ((L.drop c).take p) h.st (by obtain ⟨A, _, k⟩ := h.dec; exact k.le)
  have hpot := feed_pot De ((L.drop c).take p)
  rw [hlen] at hfine hpot
  have hpw := h.parts.turn hT fun k hk => by omega
  have hrowb : ∀ k, parts.ownBlock = some k → s ≤ k := row_first h.parts.row
  have hT2 : Turn (fun k => k = d + 1 ∨ s ≤ k) W2 w5 := ⟨hg.os, hg.tape, hg.output, hg.size, fun k hk hS => hg.block k hk fun e => hS (.inr (hrowb k e.symm))⟩
  have hT1 : Turn (fun k => k = d + 1 ∨ s ≤ k) wr W2 := hT.mono fun k hk => by omega
  have htot : totE (P2.map (·.1)) = totE (feedD De ((L.drop c).take p)).2 := by rw [hP2]
  have htk : L.take (c + p) = L.take c ++ (L.drop c).take p := by rw [List.take_add]
  have hT2s : Turn (fun k => s ≤ k) W2 w5 := ⟨hg.os, hg.tape, hg.output, hg.size, fun k hk hS => hg.block k hk fun e => hS (hrowb k e.symm)⟩
  refine ⟨hrest.turn (hT1.trans hT2) fun b hb => by omega, hD.turn hT2s (by omega), hfine.state, hpw.more hE hs hown hg, ?_, ?_, ?_, (h.t.trans hT1).trans hT2⟩
  · rw [List.map_append, hP2, htk]
    exact parts_next h.ok
  · have h1 : P2.length = (feedD De ((L.drop c).take p)).2.length := by rw [← hP2, List.length_map]
    have h2 := hfine.many
    have h3 := h.len
    rw [List.length_append]
    omega
  · have h3 := h.tot
    rw [List.map_append, totE_append]
    omega
theorem more_none {s : Nat} {w : World} {v : Value} {P : List EvP} (h : PartsAt s w v P) : w.ownsRow s 38 4 v (P.length + ([] : List EvP).length) (evC P ++ evC []) := by simpa [evC] using h.row
theorem grown_refl (w : World) (r : Option Nat) : w.grownBy w r := ⟨rfl, rfl, rfl, Nat.le_refl _, fun _ _ _ => rfl⟩
set_option maxRecDepth 100000 in
set_option maxHeartbeats 4000000 in
theorem iacCuts_law (HAL : Alive5) {w : World} (v : Value) (L : List Int) (hL : Open.BytesAt w v L ∧ L.length ≤ maxLen ∧ ∀ n ∈ L, Open.Byte n) (z : Value) (Z : List Int) (hZ : RowOf .i64 w z Z ∧ Z.length ≤ maxLen ∧ ∀ n ∈ Z, Open.I64 n) :
    Calls Try.prog 3 #[v, z] w fun e W' => e = .returned (.bool true) ∧ Below w.heap.size w W' := by
  obtain ⟨i0, hi, hz0, hz1, hz2⟩ := info_parts info_event
  obtain ⟨⟨hr, av, cv, hv, hcap⟩, hl, _⟩ := hL
  obtain ⟨hrz, hlz, _⟩ := hZ
  have hz := (zero_of_info info_dec).1
  have HR := Lib.hid hr
  obtain ⟨a, cap, rfl, _⟩ := hr
  obtain ⟨rfl, rfl⟩ : a = av ∧ cap = cv := by injection hv with h1 _ h2; exact ⟨h1, h2⟩
  obtain ⟨az, cz, rfl, hrowz⟩ := hrz
  obtain ⟨n, hn⟩ : ∃ n, n = L.length := ⟨_, rfl⟩
  obtain ⟨m, hm⟩ : ∃ m, m = Z.length := ⟨_, rfl⟩
  have HN := Lib.hid hn
  have HM := Lib.hid hm
  have HRZ := Lib.hid hrowz
  unfold maxLen at hl hlz
  rw [← hn] at HR hl hcap ⊢
  rw [← hm] at hlz ⊢
  clear hn hm hv hrowz
  by_cases hbig : 2000 < n
  · have hbig' : (2000 : Int) < n := by omega
    clear HR HRZ
    go_enter Try.func3, Try.ntmps3
    go_wp2_with fail
    refine (HAL w).mono ?_
    rintro e W1 ⟨rfl, b1⟩
    go_wp2
    go_ret
    exact ⟨rfl, b1⟩
  have hsm : (n : Int) ≤ 2000 := by omega
  by_cases hbm : 200 < m
  · have hbm' : (200 : Int) < m := by omega
    clear HR HRZ
    go_enter Try.func3, Try.ntmps3
    go_wp2_with fail
    refine (HAL w).mono ?_
    rintro e W1 ⟨rfl, b1⟩
    go_wp2
    go_ret
    exact ⟨rfl, b1⟩
  have hsm2 : (m : Int) ≤ 200 := by omega
  clear hbig hbm
  go_enter Try.func3, Try.ntmps3
  go_wp2_with fail
  refine (HAL w).mono ?_
  rintro e W1 ⟨rfl, b1⟩
  have hec := ec2_new w W1 _ L HR.out b1
  obtain ⟨d, hd⟩ : ∃ d, d = W1.heap.size := ⟨_, rfl⟩
  obtain ⟨W2, hW2⟩ : ∃ W2, W2 = (W1.alloc (.cells zdec 29)).alloc (.cells zdec 29) := ⟨_, rfl⟩
  rw [← hd, ← hW2] at hec
  have HEC2 := Lib.hid hec
  have HW2 := Lib.hid hW2.symm
  have HDD := Lib.hid hd.symm
  clear b1 hec hW2 hd
  go_upto_region 6 with fail
  rw [HW2.out, HDD.out]
  go_wp2_with fail
  refine (feed_any d dec0 _ L W2 HEC2.out.d1 (by simp [dec0]) (HEC2.out.row.mono fun k hk => by omega) (by have := HN.out; omega)).mono ?_
  rintro e W4 ⟨v4, P4, rfl, hD4, hE4, hP4, hT4⟩
  have hec4 := HEC2.out.turn1 hT4 hD4
  have hev := hE4.evsAt
  rw [hP4] at hev
  have HEC4 := Lib.hid hec4
  have HEV := Lib.hid hev
  have HFN : Hid ((feedD dec0 L).2.length ≤ 4000 ∧ totE (feedD dec0 L).2 ≤ 2000) := Lib.hid (by
    have h1 := (feedD_fine dec0 L (by simp [dec0]) (by simp [dec0])).many
    have h2 := feed_pot dec0 L
    have h3 : pend dec0 = 0 := rfl
    have := HN.out
    omega)
  clear hD4 hE4 hP4 hT4 hec4 hev HEC2 HW2
  go_wp2_with fail
  refine (join_any _ _ W4 HEV.out (by have := HFN.out; omega) (by have := HFN.out; omega)).mono ?_
  rintro e W5 ⟨v5, P5, rfl, hE5, hP5, b5⟩
  have hec5 := HEC4.out.below b5
  have hlt4 := HEC4.out.lt
  have hev5 := hE5.evsAt
  rw [hP5] at hev5
  obtain ⟨s, hs⟩ : ∃ s, s = W5.heap.size := ⟨_, rfl⟩
  have hds : d + 1 < s := by have := b5.size; omega
  have hb6 := below_alloc W5 (.cells #[] 38)
  have hp6 := parts0 (s := s) (w := W5) (by omega)
  obtain ⟨W6, hW6⟩ : ∃ W6, W6 = W5.alloc (.cells #[] 38) := ⟨_, rfl⟩
  rw [← hW6] at hb6 hp6
  rw [← hs] at hp6
  have hs6 : s ≤ W6.heap.size := by have := hb6.size; omega
  have HEC6 := Lib.hid (hec5.below hb6)
  have HEV6 := Lib.hid (hev5.below hb6)
  have HE6 := Lib.hid (hE5.below hb6)
  have HP6 := Lib.hid hp6
  have HLO : Hid (W4.heap.size ≤ s) := Lib.hid (by rw [hs]; exact b5.size)
  have HS := Lib.hid hs.symm
  have HW6 := Lib.hid hW6.symm
  have H45 : Hid (d + 1 < W4.heap.size) := Lib.hid hlt4
  obtain ⟨J5, hJ5⟩ : ∃ J5, J5 = joinL (feedD dec0 L).2 := ⟨_, rfl⟩
  have HJ5 := Lib.hid hJ5
  have HP5 : Hid (P5.map (·.1) = J5) := Lib.hid (by rw [hP5, hJ5])
  have HB56 := Lib.hid hb6
  have HSS : Hid (s = W5.heap.size) := Lib.hid hs
  obtain ⟨va5, vc5, hv5⟩ := hE5.form
  subst hv5
  have HE5 := Lib.hid hE5
  clear hec5 hev5 hE5 hP5 b5 hlt4 hb6 hp6 hW6 hs hJ5 HEC4 HEV HE6 HEV6
  obtain ⟨n5, hn5⟩ : ∃ n5, n5 = P5.length := ⟨_, rfl⟩
  rw [← hn5] at HE5
  rw [← hn5]
  clear hn5
  go_wp2_with fail
  rw [HS.out, HW6.out]
  go_loopw [8, 9, 29] (fun parts rest i wr => CutRel s d L W6 n m parts rest i wr) (fun _ _ i _ => m - (intOf i).toNat)
  case atStart => exact ⟨0, 0, n, cap, a, [], dec0, by omega, rfl, rfl, by omega, hcap, HEC6.out.row, HEC6.out.d2, by simp [dec0], HP6.out, ⟨rfl, rfl⟩, by simp, by simp [totE, pend, dec0], Turn.refl _ _⟩
  case round =>
    obtain ⟨j, c, r, kc, ra, P, De, hj, rfl, rfl, hcr, hrk, hCR⟩ := hrel
    have hsz : s ≤ wr.heap.size := Nat.le_trans hs6 hCR.t.size
    have hec := HEC6.out.turn2 hds hs6 hCR.t hCR.dec
    have HCR := Lib.hid hCR
    have HEC := Lib.hid hec
    have hpl : P.length ≤ 4000 := by have := hCR.len; omega
    have hpr := hCR.parts
    obtain ⟨pa, pc, rfl⟩ := row_form hCR.parts.row
    have hraw0 := hCR.parts.row
    obtain ⟨pl, hpl2⟩ : ∃ pl, pl = P.length := ⟨_, rfl⟩
    rw [← hpl2] at hpl HCR
    have HPL := Lib.hid hpl2
    rw [← hpl2]
    clear hCR hec hpr hraw0 hpl2
    have hri : (0 : Int) ≤ r := Int.natCast_nonneg _
    have hrki : (r : Int) ≤ kc := by omega
    by_cases hjm : j < m
    · have hjl : j < Z.length := by rw [← HM.out]; exact hjm
      obtain ⟨gz, oz, rfl, hcz⟩ := HRZ.out (by intro e; rw [e] at hjl; simp at hjl)
      have dz := hcz j hjl
      have dz := (HEC.out.old.cell (p := ⟨gz, oz + j, none⟩) (World.block_lt_of_cell? w ⟨gz, oz + j, none⟩ dz)).trans dz
      obtain ⟨x, hx⟩ : ∃ x, x = Z[j]?.getD 0 := ⟨_, rfl⟩
      rw [← hx] at dz
      clear hcz hjl hx
      obtain ⟨q, hq, hqb⟩ : ∃ q : Nat, x % 256 = (q : Int) ∧ q ≤ 255 := ⟨(x % 256).toNat, by omega, by omega⟩
      have hand : bits BinOp.and IntKind.i64 x 255 = (q : Int) := (and255 x).trans hq
      clear hq
      by_cases hqr : q ≤ r
      · skip
        have hqi : (q : Int) ≤ r := by omega
        by_cases hkk : q = kc
        · obtain rfl : q = r := by omega
          subst hkk
          clear hqr hrk hrki
          have hrest : ∀ a' c', RowIn (fun k => k < d) .u8 wr (.slice a' 0 c') (L.drop (c + q)) := fun a' c' => by
            have h1 : L.drop (c + q) = [] := List.drop_eq_nil_of_le (by have := HN.out; omega)
            rw [h1]
            exact RowIn.zero a' c'
          have HREST := Lib.hid hrest
          clear hrest
          go_wp2_with fail
          refine (feed_any (d + 1) De _ ((L.drop c).take q) wr HCR.out.dec HCR.out.st ((RowIn.takeTo HCR.out.rest q (by omega)).mono fun k hk => by omega) (by rw [List.length_take]; omega)).mono ?_
          rintro e W7 ⟨v7, P7, rfl, hD7, hE7, hP7, hT7⟩
          have hpw := HCR.out.parts.turn hT7 (fun k hk => by omega)
          have hraw := hpw.row
          rw [← HPL.out] at hraw
          have hs7 : s ≤ W7.heap.size := by have := hT7.size; omega
          have hp7 : P7.length ≤ 4000 := by
            have h1 := (feedD_fine De ((L.drop c).take q) HCR.out.st (by obtain ⟨A, _, k⟩ := HCR.out.dec; exact k.le)).many
            rw [← hP7, List.length_map, List.length_take] at h1
            omega
          have HD7 := Lib.hid hD7
          have HE7 := Lib.hid hE7
          have HP7 := Lib.hid hP7
          have HT7 := Lib.hid hT7
          have HPW := Lib.hid hpw
          clear hD7 hP7 hT7 hpw
          rcases hE7.slice with ⟨rfl, rfl⟩ | ⟨g7, c7, rfl, _, _⟩
          · clear hE7
            go_wp2_with (at_builtin; refine wpList_append_own_none rfl _ _ 30 rfl s 38 i0 4 Try.underlying30 hi _ _ _ rfl hraw rfl ?_)
            go_roundw
            case rel => exact ⟨j + 1, c + q, _, _, _, P ++ [], _, by omega, by go_num, rfl, by omega, by omega, CR.next HCR.out HN.out hcr (by omega) hds hsz HD7.out HE7.out HP7.out HT7.out (more_none HPW.out) (grown_refl _ _) (HREST.out _ _)⟩
            case measure => simp [intOf]; omega
          · have hc7 : ∀ (i : Nat) (y : Value), (evC P7)[i]? = some y → W7.cell? ((⟨g7, 0, none⟩ : Addr).add i) = some y := fun i y hy => World.ownsRow.cells hE7.row (g := g7) rfl i y hy
            have HC7 := Lib.hid hc7
            obtain ⟨m7, hm7⟩ : ∃ m7, m7 = P7.length := ⟨_, rfl⟩
            have hl7 : (evC P7).length = m7 * 4 := by rw [evC_length, hm7]
            rw [← hm7] at hp7
            have HM7 := Lib.hid hm7
            rw [← hm7]
            clear hE7 hc7 hm7
            go_wp2_with (at_builtin; refine wpList_append_own _ rfl _ _ 30 rfl s 38 i0 (.agg #[.int .i64 0, .int .u8 0, .int .u8 0, .slice none 0 0]) 4 40 Try.underlying30 hi hz0 hz1 hz2 rfl (by decide) _ _ _ rfl hraw ⟨g7, 0, none⟩ m7 c7 (evC P7) rfl hl7 HC7.out (evC_one HE7.out) (by unfold maxLen; omega) (by omega) (by omega) ?_; intro v' w8 hown' hgrow _)
            go_roundw
            case rel => exact ⟨j + 1, c + q, _, _, _, P ++ P7, _, by omega, by go_num, rfl, by omega, by omega, CR.next HCR.out HN.out hcr (by omega) hds hsz HD7.out HE7.out HP7.out HT7.out (by rw [← HPL.out, ← HM7.out]; exact hown') hgrow (HREST.out _ _)⟩
            case measure => simp [intOf]; omega
        · have hkk2 : q < kc := by omega
          have hkk3 : (q : Int) < kc := by omega
          rcases ra with _ | ad
          · have hr0 : r = 0 := by
              have := HCR.out.rest
              obtain ⟨a', c', e', hx⟩ := this
              injection e' with e1 e2 e3
              by_cases hd0 : L.drop c = []
              · rw [hd0] at e2; exact e2
              · obtain ⟨_, _, e4, _⟩ := hx hd0
                rw [← e1] at e4; cases e4
            subst hr0
            obtain rfl : q = 0 := by omega
            clear hqr
            have hrest : ∀ a' c', RowIn (fun k => k < d) .u8 wr (.slice a' 0 c') (L.drop (c + 0)) := fun a' c' => by
              have h1 : L.drop (c + 0) = [] := List.drop_eq_nil_of_le (by have := HN.out; omega)
              rw [h1]
              exact RowIn.zero a' c'
            have HREST := Lib.hid hrest
            clear hrest
            go_wp2_with fail
            refine (feed_any (d + 1) De _ ((L.drop c).take 0) wr HCR.out.dec HCR.out.st ((RowIn.takeTo HCR.out.rest 0 (by omega)).mono fun k hk => by omega) (by rw [List.length_take]; omega)).mono ?_
            rintro e W7 ⟨v7, P7, rfl, hD7, hE7, hP7, hT7⟩
            have hpw := HCR.out.parts.turn hT7 (fun k hk => by omega)
            have hraw := hpw.row
            rw [← HPL.out] at hraw
            have hs7 : s ≤ W7.heap.size := by have := hT7.size; omega
            have hp7 : P7.length ≤ 4000 := by
              have h1 := (feedD_fine De ((L.drop c).take 0) HCR.out.st (by obtain ⟨A, _, k⟩ := HCR.out.dec; exact k.le)).many
              rw [← hP7, List.length_map, List.length_take] at h1
              omega
            have HD7 := Lib.hid hD7
            have HE7 := Lib.hid hE7
            have HP7 := Lib.hid hP7
            have HT7 := Lib.hid hT7
            have HPW := Lib.hid hpw
            clear hD7 hP7 hT7 hpw
            rcases hE7.slice with ⟨rfl, rfl⟩ | ⟨g7, c7, rfl, _, _⟩
            · clear hE7
              go_wp2_with (at_builtin; refine wpList_append_own_none rfl _ _ 30 rfl s 38 i0 4 Try.underlying30 hi _ _ _ rfl hraw rfl ?_)
              go_roundw
              case rel => exact ⟨j + 1, c + 0, _, _, _, P ++ [], _, by omega, by go_num, rfl, by omega, by omega, CR.next HCR.out HN.out hcr (by omega) hds hsz HD7.out HE7.out HP7.out HT7.out (more_none HPW.out) (grown_refl _ _) (HREST.out _ _)⟩
              case measure => simp [intOf]; omega
            · have hc7 : ∀ (i : Nat) (y : Value), (evC P7)[i]? = some y → W7.cell? ((⟨g7, 0, none⟩ : Addr).add i) = some y := fun i y hy => World.ownsRow.cells hE7.row (g := g7) rfl i y hy
              have HC7 := Lib.hid hc7
              obtain ⟨m7, hm7⟩ : ∃ m7, m7 = P7.length := ⟨_, rfl⟩
              have hl7 : (evC P7).length = m7 * 4 := by rw [evC_length, hm7]
              rw [← hm7] at hp7
              have HM7 := Lib.hid hm7
              rw [← hm7]
              clear hE7 hc7 hm7
              go_wp2_with (at_builtin; refine wpList_append_own _ rfl _ _ 30 rfl s 38 i0 (.agg #[.int .i64 0, .int .u8 0, .int .u8 0, .slice none 0 0]) 4 40 Try.underlying30 hi hz0 hz1 hz2 rfl (by decide) _ _ _ rfl hraw ⟨g7, 0, none⟩ m7 c7 (evC P7) rfl hl7 HC7.out (evC_one HE7.out) (by unfold maxLen; omega) (by omega) (by omega) ?_; intro v' w8 hown' hgrow _)
              go_roundw
              case rel => exact ⟨j + 1, c + 0, _, _, _, P ++ P7, _, by omega, by go_num, rfl, by omega, by omega, CR.next HCR.out HN.out hcr (by omega) hds hsz HD7.out HE7.out HP7.out HT7.out (by rw [← HPL.out, ← HM7.out]; exact hown') hgrow (HREST.out _ _)⟩
              case measure => simp [intOf]; omega
          · skip
            have hrest : RowIn (fun k => k < d) .u8 wr (.slice (some (ad.add q)) (r - q) (kc - q)) (L.drop (c + q)) := by
              have := RowIn.dropTo HCR.out.rest q (by omega) (kc - q)
              rw [List.drop_drop] at this
              exact this
            have HREST := Lib.hid hrest
            clear hrest
            go_wp2_with fail
            refine (feed_any (d + 1) De _ ((L.drop c).take q) wr HCR.out.dec HCR.out.st ((RowIn.takeTo HCR.out.rest q (by omega)).mono fun k hk => by omega) (by rw [List.length_take]; omega)).mono ?_
            rintro e W7 ⟨v7, P7, rfl, hD7, hE7, hP7, hT7⟩
            have hpw := HCR.out.parts.turn hT7 (fun k hk => by omega)
            have hraw := hpw.row
            rw [← HPL.out] at hraw
            have hs7 : s ≤ W7.heap.size := by have := hT7.size; omega
            have hp7 : P7.length ≤ 4000 := by
              have h1 := (feedD_fine De ((L.drop c).take q) HCR.out.st (by obtain ⟨A, _, k⟩ := HCR.out.dec; exact k.le)).many
              rw [← hP7, List.length_map, List.length_take] at h1
              omega
            have HD7 := Lib.hid hD7
            have HE7 := Lib.hid hE7
            have HP7 := Lib.hid hP7
            have HT7 := Lib.hid hT7
            have HPW := Lib.hid hpw
            clear hD7 hP7 hT7 hpw
            rcases hE7.slice with ⟨rfl, rfl⟩ | ⟨g7, c7, rfl, _, _⟩
            · clear hE7
              go_wp2_with (at_builtin; refine wpList_append_own_none rfl _ _ 30 rfl s 38 i0 4 Try.underlying30 hi _ _ _ rfl hraw rfl ?_)
              go_roundw
              case rel => exact ⟨j + 1, c + q, _, _, _, P ++ [], _, by omega, by go_num, rfl, by omega, by omega, CR.next HCR.out HN.out hcr (by omega) hds hsz HD7.out HE7.out HP7.out HT7.out (more_none HPW.out) (grown_refl _ _) HREST.out⟩
              case measure => simp [intOf]; omega
            · have hc7 : ∀ (i : Nat) (y : Value), (evC P7)[i]? = some y → W7.cell? ((⟨g7, 0, none⟩ : Addr).add i) = some y := fun i y hy => World.ownsRow.cells hE7.row (g := g7) rfl i y hy
              have HC7 := Lib.hid hc7
              obtain ⟨m7, hm7⟩ : ∃ m7, m7 = P7.length := ⟨_, rfl⟩
              have hl7 : (evC P7).length = m7 * 4 := by rw [evC_length, hm7]
              rw [← hm7] at hp7
              have HM7 := Lib.hid hm7
              rw [← hm7]
              clear hE7 hc7 hm7
              go_wp2_with (at_builtin; refine wpList_append_own _ rfl _ _ 30 rfl s 38 i0 (.agg #[.int .i64 0, .int .u8 0, .int .u8 0, .slice none 0 0]) 4 40 Try.underlying30 hi hz0 hz1 hz2 rfl (by decide) _ _ _ rfl hraw ⟨g7, 0, none⟩ m7 c7 (evC P7) rfl hl7 HC7.out (evC_one HE7.out) (by unfold maxLen; omega) (by omega) (by omega) ?_; intro v' w8 hown' hgrow _)
              go_roundw
              case rel => exact ⟨j + 1, c + q, _, _, _, P ++ P7, _, by omega, by go_num, rfl, by omega, by omega, CR.next HCR.out HN.out hcr (by omega) hds hsz HD7.out HE7.out HP7.out HT7.out (by rw [← HPL.out, ← HM7.out]; exact hown') hgrow HREST.out⟩
              case measure => simp [intOf]; omega
      · skip
        have hqi : (r : Int) < q := by omega
        have hqn : r < q := by omega
        clear hqr
        by_cases hkk : r = kc
        · subst hkk
          clear hrk hrki
          have hrest : ∀ a' c', RowIn (fun k => k < d) .u8 wr (.slice a' 0 c') (L.drop (c + r)) := fun a' c' => by
            have h1 : L.drop (c + r) = [] := List.drop_eq_nil_of_le (by have := HN.out; omega)
            rw [h1]
            exact RowIn.zero a' c'
          have HREST := Lib.hid hrest
          clear hrest
          go_wp2_with fail
          refine (feed_any (d + 1) De _ ((L.drop c).take r) wr HCR.out.dec HCR.out.st ((RowIn.takeTo HCR.out.rest r (by omega)).mono fun k hk => by omega) (by rw [List.length_take]; omega)).mono ?_
          rintro e W7 ⟨v7, P7, rfl, hD7, hE7, hP7, hT7⟩
          have hpw := HCR.out.parts.turn hT7 (fun k hk => by omega)
          have hraw := hpw.row
          rw [← HPL.out] at hraw
          have hs7 : s ≤ W7.heap.size := by have := hT7.size; omega
          have hp7 : P7.length ≤ 4000 := by
            have h1 := (feedD_fine De ((L.drop c).take r) HCR.out.st (by obtain ⟨A, _, k⟩ := HCR.out.dec; exact k.le)).many
            rw [← hP7, List.length_map, List.length_take] at h1
            omega
          have HD7 := Lib.hid hD7
          have HE7 := Lib.hid hE7
          have HP7 := Lib.hid hP7
          have HT7 := Lib.hid hT7
          have HPW := Lib.hid hpw
          clear hD7 hP7 hT7 hpw
          rcases hE7.slice with ⟨rfl, rfl⟩ | ⟨g7, c7, rfl, _, _⟩
          · clear hE7
            go_wp2_with (at_builtin; refine wpList_append_own_none rfl _ _ 30 rfl s 38 i0 4 Try.underlying30 hi _ _ _ rfl hraw rfl ?_)
            go_roundw
            case rel => exact ⟨j + 1, c + r, _, _, _, P ++ [], _, by omega, by go_num, rfl, by omega, by omega, CR.next HCR.out HN.out hcr (by omega) hds hsz HD7.out HE7.out HP7.out HT7.out (more_none HPW.out) (grown_refl _ _) (HREST.out _ _)⟩
            case measure => simp [intOf]; omega
          · have hc7 : ∀ (i : Nat) (y : Value), (evC P7)[i]? = some y → W7.cell? ((⟨g7, 0, none⟩ : Addr).add i) = some y := fun i y hy => World.ownsRow.cells hE7.row (g := g7) rfl i y hy
            have HC7 := Lib.hid hc7
            obtain ⟨m7, hm7⟩ : ∃ m7, m7 = P7.length := ⟨_, rfl⟩
            have hl7 : (evC P7).length = m7 * 4 := by rw [evC_length, hm7]
            rw [← hm7] at hp7
            have HM7 := Lib.hid hm7
            rw [← hm7]
            clear hE7 hc7 hm7
            go_wp2_with (at_builtin; refine wpList_append_own _ rfl _ _ 30 rfl s 38 i0 (.agg #[.int .i64 0, .int .u8 0, .int .u8 0, .slice none 0 0]) 4 40 Try.underlying30 hi hz0 hz1 hz2 rfl (by decide) _ _ _ rfl hraw ⟨g7, 0, none⟩ m7 c7 (evC P7) rfl hl7 HC7.out (evC_one HE7.out) (by unfold maxLen; omega) (by omega) (by omega) ?_; intro v' w8 hown' hgrow _)
            go_roundw
            case rel => exact ⟨j + 1, c + r, _, _, _, P ++ P7, _, by omega, by go_num, rfl, by omega, by omega, CR.next HCR.out HN.out hcr (by omega) hds hsz HD7.out HE7.out HP7.out HT7.out (by rw [← HPL.out, ← HM7.out]; exact hown') hgrow (HREST.out _ _)⟩
            case measure => simp [intOf]; omega
        · have hkk2 : r < kc := by omega
          have hkk3 : (r : Int) < kc := by omega
          rcases ra with _ | ad
          · have hr0 : r = 0 := by
              have := HCR.out.rest
              obtain ⟨a', c', e', hx⟩ := this
              injection e' with e1 e2 e3
              by_cases hd0 : L.drop c = []
              · rw [hd0] at e2; exact e2
              · obtain ⟨_, _, e4, _⟩ := hx hd0
                rw [← e1] at e4; cases e4
            subst hr0
            skip
            have hrest : ∀ a' c', RowIn (fun k => k < d) .u8 wr (.slice a' 0 c') (L.drop (c + 0)) := fun a' c' => by
              have h1 : L.drop (c + 0) = [] := List.drop_eq_nil_of_le (by have := HN.out; omega)
              rw [h1]
              exact RowIn.zero a' c'
            have HREST := Lib.hid hrest
            clear hrest
            go_wp2_with fail
            refine (feed_any (d + 1) De _ ((L.drop c).take 0) wr HCR.out.dec HCR.out.st ((RowIn.takeTo HCR.out.rest 0 (by omega)).mono fun k hk => by omega) (by rw [List.length_take]; omega)).mono ?_
            rintro e W7 ⟨v7, P7, rfl, hD7, hE7, hP7, hT7⟩
            have hpw := HCR.out.parts.turn hT7 (fun k hk => by omega)
            have hraw := hpw.row
            rw [← HPL.out] at hraw
            have hs7 : s ≤ W7.heap.size := by have := hT7.size; omega
            have hp7 : P7.length ≤ 4000 := by
              have h1 := (feedD_fine De ((L.drop c).take 0) HCR.out.st (by obtain ⟨A, _, k⟩ := HCR.out.dec; exact k.le)).many
              rw [← hP7, List.length_map, List.length_take] at h1
              omega
            have HD7 := Lib.hid hD7
            have HE7 := Lib.hid hE7
            have HP7 := Lib.hid hP7
            have HT7 := Lib.hid hT7
            have HPW := Lib.hid hpw
            clear hD7 hP7 hT7 hpw
            rcases hE7.slice with ⟨rfl, rfl⟩ | ⟨g7, c7, rfl, _, _⟩
            · clear hE7
              go_wp2_with (at_builtin; refine wpList_append_own_none rfl _ _ 30 rfl s 38 i0 4 Try.underlying30 hi _ _ _ rfl hraw rfl ?_)
              go_roundw
              case rel => exact ⟨j + 1, c + 0, _, _, _, P ++ [], _, by omega, by go_num, rfl, by omega, by omega, CR.next HCR.out HN.out hcr (by omega) hds hsz HD7.out HE7.out HP7.out HT7.out (more_none HPW.out) (grown_refl _ _) (HREST.out _ _)⟩
              case measure => simp [intOf]; omega
            · have hc7 : ∀ (i : Nat) (y : Value), (evC P7)[i]? = some y → W7.cell? ((⟨g7, 0, none⟩ : Addr).add i) = some y := fun i y hy => World.ownsRow.cells hE7.row (g := g7) rfl i y hy
              have HC7 := Lib.hid hc7
              obtain ⟨m7, hm7⟩ : ∃ m7, m7 = P7.length := ⟨_, rfl⟩
              have hl7 : (evC P7).length = m7 * 4 := by rw [evC_length, hm7]
              rw [← hm7] at hp7
              have HM7 := Lib.hid hm7
              rw [← hm7]
              clear hE7 hc7 hm7
              go_wp2_with (at_builtin; refine wpList_append_own _ rfl _ _ 30 rfl s 38 i0 (.agg #[.int .i64 0, .int .u8 0, .int .u8 0, .slice none 0 0]) 4 40 Try.underlying30 hi hz0 hz1 hz2 rfl (by decide) _ _ _ rfl hraw ⟨g7, 0, none⟩ m7 c7 (evC P7) rfl hl7 HC7.out (evC_one HE7.out) (by unfold maxLen; omega) (by omega) (by omega) ?_; intro v' w8 hown' hgrow _)
              go_roundw
              case rel => exact ⟨j + 1, c + 0, _, _, _, P ++ P7, _, by omega, by go_num, rfl, by omega, by omega, CR.next HCR.out HN.out hcr (by omega) hds hsz HD7.out HE7.out HP7.out HT7.out (by rw [← HPL.out, ← HM7.out]; exact hown') hgrow (HREST.out _ _)⟩
              case measure => simp [intOf]; omega
          · skip
            have hrest : ∀ a' c', RowIn (fun k => k < d) .u8 wr (.slice a' 0 c') (L.drop (c + r)) := fun a' c' => by
              have h1 : L.drop (c + r) = [] := List.drop_eq_nil_of_le (by have := HN.out; omega)
              rw [h1]
              exact RowIn.zero a' c'
            have HREST := Lib.hid hrest
            clear hrest
            go_wp2_with fail
            refine (feed_any (d + 1) De _ ((L.drop c).take r) wr HCR.out.dec HCR.out.st ((RowIn.takeTo HCR.out.rest r (by omega)).mono fun k hk => by omega) (by rw [List.length_take]; omega)).mono ?_
            rintro e W7 ⟨v7, P7, rfl, hD7, hE7, hP7, hT7⟩
            have hpw := HCR.out.parts.turn hT7 (fun k hk => by omega)
            have hraw := hpw.row
            rw [← HPL.out] at hraw
            have hs7 : s ≤ W7.heap.size := by have := hT7.size; omega
            have hp7 : P7.length ≤ 4000 := by
              have h1 := (feedD_fine De ((L.drop c).take r) HCR.out.st (by obtain ⟨A, _, k⟩ := HCR.out.dec; exact k.le)).many
              rw [← hP7, List.length_map, List.length_take] at h1
              omega
            have HD7 := Lib.hid hD7
            have HE7 := Lib.hid hE7
            have HP7 := Lib.hid hP7
            have HT7 := Lib.hid hT7
            have HPW := Lib.hid hpw
            clear hD7 hP7 hT7 hpw
            rcases hE7.slice with ⟨rfl, rfl⟩ | ⟨g7, c7, rfl, _, _⟩
            · clear hE7
              go_wp2_with (at_builtin; refine wpList_append_own_none rfl _ _ 30 rfl s 38 i0 4 Try.underlying30 hi _ _ _ rfl hraw rfl ?_)
              go_roundw
              case rel => exact ⟨j + 1, c + r, _, _, _, P ++ [], _, by omega, by go_num, rfl, by omega, by omega, CR.next HCR.out HN.out hcr (by omega) hds hsz HD7.out HE7.out HP7.out HT7.out (more_none HPW.out) (grown_refl _ _) (HREST.out _ _)⟩
              case measure => simp [intOf]; omega
            · have hc7 : ∀ (i : Nat) (y : Value), (evC P7)[i]? = some y → W7.cell? ((⟨g7, 0, none⟩ : Addr).add i) = some y := fun i y hy => World.ownsRow.cells hE7.row (g := g7) rfl i y hy
              have HC7 := Lib.hid hc7
              obtain ⟨m7, hm7⟩ : ∃ m7, m7 = P7.length := ⟨_, rfl⟩
              have hl7 : (evC P7).length = m7 * 4 := by rw [evC_length, hm7]
              rw [← hm7] at hp7
              have HM7 := Lib.hid hm7
              rw [← hm7]
              clear hE7 hc7 hm7
              go_wp2_with (at_builtin; refine wpList_append_own _ rfl _ _ 30 rfl s 38 i0 (.agg #[.int .i64 0, .int .u8 0, .int .u8 0, .slice none 0 0]) 4 40 Try.underlying30 hi hz0 hz1 hz2 rfl (by decide) _ _ _ rfl hraw ⟨g7, 0, none⟩ m7 c7 (evC P7) rfl hl7 HC7.out (evC_one HE7.out) (by unfold maxLen; omega) (by omega) (by omega) ?_; intro v' w8 hown' hgrow _)
              go_roundw
              case rel => exact ⟨j + 1, c + r, _, _, _, P ++ P7, _, by omega, by go_num, rfl, by omega, by omega, CR.next HCR.out HN.out hcr (by omega) hds hsz HD7.out HE7.out HP7.out HT7.out (by rw [← HPL.out, ← HM7.out]; exact hown') hgrow (HREST.out _ _)⟩
              case measure => simp [intOf]; omega
    · obtain rfl : m = j := by omega
      have htr : (L.drop c).take r = L.drop c := List.take_of_length_le (by rw [List.length_drop]; have := HN.out; omega)
      have hz0 : L.drop (c + r) = [] := List.drop_eq_nil_of_le (by have := HN.out; omega)
      have HTR := Lib.hid htr
      have HZ0 := Lib.hid hz0
      have HJL : Hid (J5.length ≤ 4000 ∧ totE J5 ≤ 2000) := Lib.hid (by
        have h1 := joinL_tot (feedD dec0 L).2
        have := HFN.out
        rw [HJ5.out]
        omega)
      clear htr hz0
      go_wp2_with fail
      refine (feed_any (d + 1) De _ ((L.drop c).take r) wr HCR.out.dec HCR.out.st (by rw [HTR.out]; exact HCR.out.rest.mono fun k hk => by omega) (by rw [List.length_take]; omega)).mono ?_
      rintro e W7 ⟨v7, P7, rfl, hD7, hE7, hP7, hT7⟩
      have hpw := HCR.out.parts.turn hT7 (fun k hk => by omega)
      have hraw := hpw.row
      rw [← HPL.out] at hraw
      have hs7 : s ≤ W7.heap.size := by have := hT7.size; omega
      have hp7 : P7.length ≤ 4000 := by
        have h1 := (feedD_fine De ((L.drop c).take r) HCR.out.st (by obtain ⟨A, _, k⟩ := HCR.out.dec; exact k.le)).many
        rw [← hP7, List.length_map, List.length_take] at h1
        omega
      have HD7 := Lib.hid hD7
      have HE7 := Lib.hid hE7
      have HP7 := Lib.hid hP7
      have HT7 := Lib.hid hT7
      have HPW := Lib.hid hpw
      clear hD7 hP7 hT7 hpw
      rcases hE7.slice with ⟨rfl, rfl⟩ | ⟨g7, c7, rfl, _, _⟩
      · clear hE7
        go_wp2_with (at_builtin; refine wpList_append_own_none rfl _ _ 30 rfl s 38 i0 4 Try.underlying30 hi _ _ _ rfl hraw rfl ?_)
        have hCF := CR.next (r' := 0) (kc' := 0) (rest' := .slice none 0 0) HCR.out HN.out hcr (Nat.le_refl r) hds hsz HD7.out HE7.out HP7.out HT7.out (more_none HPW.out) (grown_refl _ _) (by rw [HZ0.out]; exact RowIn.zero none 0)
        obtain ⟨w8, hw8⟩ : ∃ w8, w8 = W7 := ⟨_, rfl⟩
        obtain ⟨Df, hDf⟩ : ∃ Df, Df = (feedD De ((L.drop c).take r)).1 := ⟨_, rfl⟩
        rw [← hw8, ← hDf] at hCF
        rw [← hw8]
        clear hw8 hDf HD7 HE7 HP7 HT7 HPW hraw hs7 HCR HEC
        have HCF := Lib.hid hCF
        have hec8 := HEC6.out.turn2 hds hs6 hCF.t hCF.dec
        have HEC8 := Lib.hid hec8
        have HJN : Hid (joinL ((P ++ ([] : List EvP)).map (·.1)) = J5 ∧ Df = (feedD dec0 L).1) := Lib.hid (by
          have h1 := hCF.ok
          rw [List.take_of_length_le (by have := HN.out; omega)] at h1
          exact ⟨by rw [h1.2, HJ5.out], h1.1⟩)
        have hev8 := hCF.parts.evsAt
        have hl8 : ((P ++ ([] : List EvP)).map (·.1)).length ≤ 4000 := by
          have := hCF.len
          rw [List.length_map]
          omega
        have ht8 := hCF.tot
        have HEV8 := Lib.hid hev8
        have hws : ∀ g, W4.heap.size ≤ g → g < W5.heap.size → w8.heap[g]? = W5.heap[g]? := fun g h1 h2 => by
          have h3 := HB56.out.block g h2
          have h4 := hCF.t.block g (by have := HB56.out.size; omega) (by have := H45.out; have := HSS.out; omega)
          exact h4.trans h3
        have he5 := (HE5.out.keep hws).evsAt
        rw [HP5.out] at he5
        have HE58 := Lib.hid he5
        clear hCF hec8 hev8 hws he5
        go_wp2_with fail
        refine (join_any _ _ w8 HEV8.out (by omega) (by omega)).mono ?_
        rw [HJN.out.1]
        rintro e w9 ⟨v9, P9, rfl, hE9, hP9, b9⟩
        have hev9 := hE9.evsAt
        rw [hP9] at hev9
        have HEV9 := Lib.hid hev9
        have HB9 := Lib.hid b9
        have hs9 := b9.size
        clear hE9 hP9 hev9 b9
        go_wp2_with fail
        refine (as_any _ J5 w9 HEV9.out (by have := HJL.out; omega)).mono ?_
        rintro e w10 ⟨v10, rfl, hE10, b10⟩
        have HE10 := Lib.hid hE10
        have HB10 := Lib.hid (HB9.out.trans (b10.mono hs9))
        have hs10 : w8.heap.size ≤ w10.heap.size := by have := b10.size; omega
        clear hE10 b10
        go_wp2_with fail
        refine (as_any _ J5 w10 (HE58.out.below HB10.out) (by have := HJL.out; omega)).mono ?_
        rintro e w11 ⟨v11, rfl, hE11, b11⟩
        have HE11 := Lib.hid hE11
        have HE1011 := Lib.hid (HE10.out.below b11)
        have HB11 := Lib.hid (HB10.out.trans (b11.mono hs10))
        clear hE11 b11
        go_wp2_with fail
        refine (same5_true _ _ J5 w11 HE1011.out HE11.out (by have := HJL.out; omega) (fun e he => by have := tot_mem he; have := HJL.out; omega)).mono ?_
        rintro e w' ⟨rfl, nd, rfl⟩
        have hecF := HEC8.out.below (HB11.out.trans ((Below.refl _ w11).drew.mono (Nat.le_refl _)))
        have HECF := Lib.hid (HEC8.out.below HB11.out)
        have HD1 : Hid (DecAt (w11.drewN nd) d (feedD dec0 L).1) := Lib.hid (HECF.out.d1.kept rfl)
        have HD2 : Hid (DecAt (w11.drewN nd) (d + 1) (feedD dec0 L).1) := Lib.hid (by rw [← HJN.out.2]; exact HECF.out.d2.kept rfl)
        obtain ⟨ob, hob⟩ : ∃ ob, ob = ((feedD dec0 L).1.state != 0) := ⟨_, rfl⟩
        have HOB := Lib.hid hob
        clear hecF hob
        go_wp2_with fail
        refine (open_any HD1.out).mono ?_
        rw [← HOB.out]
        rintro e w' ⟨rfl, rfl⟩
        go_wp2_with fail
        refine (open_any HD2.out).mono ?_
        rw [← HOB.out]
        rintro e w' ⟨rfl, rfl⟩
        cases ob
        all_goals
          go_wp2
          go_ret
          exact ⟨rfl, below_drewN HECF.out.old _⟩
      · have hc7 : ∀ (i : Nat) (y : Value), (evC P7)[i]? = some y → W7.cell? ((⟨g7, 0, none⟩ : Addr).add i) = some y := fun i y hy => World.ownsRow.cells hE7.row (g := g7) rfl i y hy
        have HC7 := Lib.hid hc7
        obtain ⟨m7, hm7⟩ : ∃ m7, m7 = P7.length := ⟨_, rfl⟩
        have hl7 : (evC P7).length = m7 * 4 := by rw [evC_length, hm7]
        rw [← hm7] at hp7
        have HM7 := Lib.hid hm7
        rw [← hm7]
        clear hE7 hc7 hm7
        go_wp2_with (at_builtin; refine wpList_append_own _ rfl _ _ 30 rfl s 38 i0 (.agg #[.int .i64 0, .int .u8 0, .int .u8 0, .slice none 0 0]) 4 40 Try.underlying30 hi hz0 hz1 hz2 rfl (by decide) _ _ _ rfl hraw ⟨g7, 0, none⟩ m7 c7 (evC P7) rfl hl7 HC7.out (evC_one HE7.out) (by unfold maxLen; omega) (by omega) (by omega) ?_; intro v' w8 hown' hgrow _; have hCF := CR.next (r' := 0) (kc' := 0) (rest' := .slice none 0 0) HCR.out HN.out hcr (Nat.le_refl r) hds hsz HD7.out HE7.out HP7.out HT7.out (by rw [← HPL.out, ← HM7.out]; exact hown') hgrow (by rw [HZ0.out]; exact RowIn.zero none 0); obtain ⟨Df, hDf⟩ : ∃ Df, Df = (feedD De ((L.drop c).take r)).1 := ⟨_, rfl⟩; rw [← hDf] at hCF; have HCF := Lib.hid hCF; clear hCF hDf hown' hgrow hl7)
        have hCF := HCF.out
        clear HD7 HE7 HP7 HT7 HPW hraw hs7 HCR HEC
        have HCF := Lib.hid hCF
        have hec8 := HEC6.out.turn2 hds hs6 hCF.t hCF.dec
        have HEC8 := Lib.hid hec8
        have HJN : Hid (joinL ((P ++ P7).map (·.1)) = J5 ∧ Df = (feedD dec0 L).1) := Lib.hid (by
          have h1 := hCF.ok
          rw [List.take_of_length_le (by have := HN.out; omega)] at h1
          exact ⟨by rw [h1.2, HJ5.out], h1.1⟩)
        have hev8 := hCF.parts.evsAt
        have hl8 : ((P ++ P7).map (·.1)).length ≤ 4000 := by
          have := hCF.len
          rw [List.length_map]
          omega
        have ht8 := hCF.tot
        have HEV8 := Lib.hid hev8
        have hws : ∀ g, W4.heap.size ≤ g → g < W5.heap.size → w8.heap[g]? = W5.heap[g]? := fun g h1 h2 => by
          have h3 := HB56.out.block g h2
          have h4 := hCF.t.block g (by have := HB56.out.size; omega) (by have := H45.out; have := HSS.out; omega)
          exact h4.trans h3
        have he5 := (HE5.out.keep hws).evsAt
        rw [HP5.out] at he5
        have HE58 := Lib.hid he5
        clear hCF hec8 hev8 hws he5
        go_wp2_with fail
        refine (join_any _ _ w8 HEV8.out (by omega) (by omega)).mono ?_
        rw [HJN.out.1]
        rintro e w9 ⟨v9, P9, rfl, hE9, hP9, b9⟩
        have hev9 := hE9.evsAt
        rw [hP9] at hev9
        have HEV9 := Lib.hid hev9
        have HB9 := Lib.hid b9
        have hs9 := b9.size
        clear hE9 hP9 hev9 b9
        go_wp2_with fail
        refine (as_any _ J5 w9 HEV9.out (by have := HJL.out; omega)).mono ?_
        rintro e w10 ⟨v10, rfl, hE10, b10⟩
        have HE10 := Lib.hid hE10
        have HB10 := Lib.hid (HB9.out.trans (b10.mono hs9))
        have hs10 : w8.heap.size ≤ w10.heap.size := by have := b10.size; omega
        clear hE10 b10
        go_wp2_with fail
        refine (as_any _ J5 w10 (HE58.out.below HB10.out) (by have := HJL.out; omega)).mono ?_
        rintro e w11 ⟨v11, rfl, hE11, b11⟩
        have HE11 := Lib.hid hE11
        have HE1011 := Lib.hid (HE10.out.below b11)
        have HB11 := Lib.hid (HB10.out.trans (b11.mono hs10))
        clear hE11 b11
        go_wp2_with fail
        refine (same5_true _ _ J5 w11 HE1011.out HE11.out (by have := HJL.out; omega) (fun e he => by have := tot_mem he; have := HJL.out; omega)).mono ?_
        rintro e w' ⟨rfl, nd, rfl⟩
        have hecF := HEC8.out.below (HB11.out.trans ((Below.refl _ w11).drew.mono (Nat.le_refl _)))
        have HECF := Lib.hid (HEC8.out.below HB11.out)
        have HD1 : Hid (DecAt (w11.drewN nd) d (feedD dec0 L).1) := Lib.hid (HECF.out.d1.kept rfl)
        have HD2 : Hid (DecAt (w11.drewN nd) (d + 1) (feedD dec0 L).1) := Lib.hid (by rw [← HJN.out.2]; exact HECF.out.d2.kept rfl)
        obtain ⟨ob, hob⟩ : ∃ ob, ob = ((feedD dec0 L).1.state != 0) := ⟨_, rfl⟩
        have HOB := Lib.hid hob
        clear hecF hob
        go_wp2_with fail
        refine (open_any HD1.out).mono ?_
        rw [← HOB.out]
        rintro e w' ⟨rfl, rfl⟩
        go_wp2_with fail
        refine (open_any HD2.out).mono ?_
        rw [← HOB.out]
        rintro e w' ⟨rfl, rfl⟩
        cases ob
        all_goals
          go_wp2
          go_ret
          exact ⟨rfl, below_drewN HECF.out.old _⟩
end Go.Proofs.Ytgjdfhfaikdaaaa.Iac
