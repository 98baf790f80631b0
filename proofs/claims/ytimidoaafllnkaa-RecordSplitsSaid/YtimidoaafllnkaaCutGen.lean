/-
  Bytes that come in parts: what a round of them finds (the first half of IacCutsWalk, for seats without that law).
-/
import Derived.Test.YtimidoaafllnkaaCutPlain
import Derived.Test.YtimidoaafllnkaaAsA
import Derived.Test.YtimidoaafllnkaaOpenE
namespace Go.Proofs.Ytimidoaafllnkaa.Iac
open Go.RowKit Base
set_option linter.unusedVariables false

theorem i64_mask (n : Int) (m k : Nat) (hk : k ≤ 63) (hm : (BitVec.ofInt 64 (m : Int)).toNat = 2 ^ k - 1) (hp : (2 ^ k : Nat) ≤ 9223372036854775807) : bits .and .i64 n (m : Int) = n % ((2 ^ k : Nat) : Int) := by
  have key : (BitVec.ofInt 64 n &&& BitVec.ofInt 64 (m : Int)).toNat = (n % ((2 ^ 64 : Nat) : Int)).toNat % 2 ^ k := by
    rw [BitVec.toNat_and, BitVec.toNat_ofInt, hm, Nat.and_two_pow_sub_one_eq_mod]
  show IntKind.i64.wrap ((BitVec.ofInt 64 n &&& BitVec.ofInt 64 (m : Int)).toNat : Nat) = n % ((2 ^ k : Nat) : Int)
  rw [key]
  have hpos : 0 < 2 ^ k := Nat.two_pow_pos k
  have hdvd : ((2 ^ k : Nat) : Int) ∣ ((2 ^ 64 : Nat) : Int) := by
    have : 2 ^ k ∣ 2 ^ 64 := Nat.pow_dvd_pow 2 (by omega)
    exact Int.natCast_dvd_natCast.mpr this
  have h0 : 0 ≤ n % ((2 ^ 64 : Nat) : Int) := Int.emod_nonneg _ (by decide)
  have h1 : (((n % ((2 ^ 64 : Nat) : Int)).toNat % 2 ^ k : Nat) : Int) = n % ((2 ^ k : Nat) : Int) := by
    rw [Int.natCast_emod, Int.toNat_of_nonneg h0, Int.emod_emod_of_dvd _ hdvd]
  have h2 : n % ((2 ^ k : Nat) : Int) < ((2 ^ k : Nat) : Int) := Int.emod_lt_of_pos _ (by omega)
  have h3 : 0 ≤ n % ((2 ^ k : Nat) : Int) := Int.emod_nonneg _ (by omega)
  rw [h1]
  exact IntWalk.i64_in _ (by omega)
theorem and255 (n : Int) : bits .and .i64 n 255 = n % 256 := i64_mask n 255 8 (by decide) (by decide) (by decide)
/-- A part of a row, from its beginning, and what is behind it. -/
theorem RowIn.takeTo {S : Nat → Prop} {w : World} {a : Option Addr} {n c : Nat} {L : List Int} (h : RowIn S .u8 w (.slice a n c) L) (m : Nat) (hm : m ≤ n) : RowIn S .u8 w (.slice a m c) (L.take m) := by
  obtain ⟨a', c', e', hr⟩ := h
  injection e' with e1 e2 e3
  subst e1 e3
  have hl : (L.take m).length = m := by rw [List.length_take]; omega
  refine ⟨a, c, by rw [hl], fun hne => ?_⟩
  obtain ⟨b, off, ha, hS, hlt, hc⟩ := hr (by intro e; rw [e] at hne; simp at hne)
  refine ⟨b, off, ha, hS, hlt, fun i hi => ?_⟩
  rw [hl] at hi
  rw [hc i (by omega), List.getElem?_take_of_lt hi]
theorem RowIn.zero {S : Nat → Prop} {w : World} (a : Option Addr) (c : Nat) : RowIn S .u8 w (.slice a 0 c) [] := ⟨a, c, rfl, fun h => absurd rfl h⟩
theorem RowIn.dropTo {S : Nat → Prop} {w : World} {ad : Addr} {n c : Nat} {L : List Int} (h : RowIn S .u8 w (.slice (some ad) n c) L) (m : Nat) (hm : m ≤ n) (c' : Nat) : RowIn S .u8 w (.slice (some (ad.add m)) (n - m) c') (L.drop m) := by
  obtain ⟨a', c0, e', hr⟩ := h
  injection e' with e1 e2 e3
  subst e1
  have hl : (L.drop m).length = n - m := by rw [List.length_drop, ← e2]
  refine ⟨_, c', by rw [hl], fun hne => ?_⟩
  have hne' : L ≠ [] := by intro e; rw [e] at hne; simp at hne
  obtain ⟨b, off, ha, hS, hlt, hc⟩ := hr hne'
  cases ha
  refine ⟨b, off + m, ?_, hS, hlt, fun i hi => ?_⟩
  · unfold Addr.add; split <;> simp_all
  · rw [hl] at hi
    rw [List.getElem?_drop, show off + m + i = off + (m + i) by omega]
    exact hc (m + i) (by omega)
/-- Two decoders and the bytes. -/
structure EC2 (w : World) (d : Nat) (v : Value) (L : List Int) (D1 D2 : Dec) (W : World) : Prop where
  row : RowIn (fun k => k < d) .u8 W v L
  d1 : DecAt W d D1
  d2 : DecAt W (d + 1) D2
  old : Below w.heap.size w W
  lo : w.heap.size ≤ d
section
variable {w W W' : World} {d : Nat} {v : Value} {L : List Int} {D1 D2 D : Dec}
theorem EC2.lt (h : EC2 w d v L D1 D2 W) : d + 1 < W.heap.size := h.d2.lt
theorem EC2.below (h : EC2 w d v L D1 D2 W) (t : Below W.heap.size W W') : EC2 w d v L D1 D2 W' :=
  ⟨h.row.below t, h.d1.below t, h.d2.below t, h.old.trans (t.mono h.old.size), h.lo⟩
theorem EC2.turn1 (h : EC2 w d v L D1 D2 W) (t : Turn (fun k => k = d ∨ W.heap.size ≤ k) W W') (hd : DecAt W' d D) : EC2 w d v L D D2 W' := by
  have := h.lt; have := h.lo
  exact ⟨h.row.turn t fun b hb => by omega, hd, h.d2.turn t (by omega), h.old.trans (t.below h.old.size fun k hk => by omega), h.lo⟩
/-- .. from a place of memory s on, and the second decoder. -/
theorem EC2.turn2 {s : Nat} (h : EC2 w d v L D1 D2 W) (hs : d + 1 < s) (hs2 : s ≤ W.heap.size) (t : Turn (fun k => k = d + 1 ∨ s ≤ k) W W') (hd : DecAt W' (d + 1) D) : EC2 w d v L D1 D W' := by
  have := h.lo
  have hb : ∀ k, k < w.heap.size → W'.heap[k]? = W.heap[k]? := fun k hk => t.block k (by have := h.old.size; omega) (by omega)
  exact ⟨h.row.turn t fun b hb => by omega, h.d1.turn t (by omega), hd, h.old.trans ⟨t.os, t.tape, t.output, t.size, fun k hk => hb k hk⟩, h.lo⟩
end
theorem ec2_new (w W1 : World) (v : Value) (L : List Int) (hr : RowOf .u8 w v L) (hb : Below w.heap.size w W1) : EC2 w W1.heap.size v L dec0 dec0 ((W1.alloc (.cells zdec 102)).alloc (.cells zdec 102)) := by
  have b1 := below_alloc W1 (.cells zdec 102)
  have b2 := below_alloc (W1.alloc (.cells zdec 102)) (.cells zdec 102)
  have s1 := World.size_alloc W1 (.cells zdec 102)
  have d2 := dec_new (W1.alloc (.cells zdec 102))
  have hlo := hb.size
  rw [s1] at d2
  have hrow : RowIn (fun k => k < W1.heap.size) .u8 W1 v L := (hr.below hb).lowK
  exact ⟨(hrow.below b1).below b2, (dec_new W1).below b2, d2, (hb.trans (b1.mono hlo)).trans (b2.mono (by omega)), hlo⟩
/-- A row of events of the call's own, whose bytes are so, too. -/
structure PartsAt (s : Nat) (w : World) (v : Value) (P : List EvP) : Prop where
  row : w.ownsRow s 26 4 v P.length (evC P)
  own : ∀ p ∈ P, OwnBytes s w p.2 p.1.bytes
theorem PartsAt.turn {s : Nat} {w w' : World} {v : Value} {P : List EvP} {T : Nat → Prop} (h : PartsAt s w v P) (t : Turn T w w') (hT : ∀ k, T k → k < s ∨ w.heap.size ≤ k) : PartsAt s w' v P := by
  have hk : ∀ g, s ≤ g → g < w.heap.size → w'.heap[g]? = w.heap[g]? := fun g hs hl => t.block g hl fun e => by have := hT g e; omega
  exact ⟨ownsRow_keep h.row fun g _ => hk g, fun p hp => (h.own p hp).keep hk⟩
theorem PartsAt.below {s : Nat} {w w' : World} {v : Value} {P : List EvP} (h : PartsAt s w v P) (t : Below w.heap.size w w') : PartsAt s w' v P :=
  ⟨ownsRow_keep h.row fun g _ _ hl => t.block g hl, fun p hp => (h.own p hp).below t⟩
theorem PartsAt.evsAt {s : Nat} {w : World} {v : Value} {P : List EvP} (h : PartsAt s w v P) : EvsAt w v (P.map (·.1)) := by
  rcases h.row.2 with ⟨rfl, h0⟩ | ⟨g, cap, cur, rfl, hg, hgb, _⟩
  · exact ⟨none, 0, by simp [h0], fun hne => absurd (by simpa using h0) hne⟩
  · refine ⟨_, cap, by simp, fun _ => ⟨g, 0, rfl, lt_of_block hgb, fun i e hi => ?_⟩⟩
    rw [List.getElem?_map] at hi
    obtain ⟨p, hp, rfl⟩ := Option.map_eq_some_iff.1 hi
    obtain ⟨a0, a1, a2, a3⟩ := evC_get P i p hp
    obtain ⟨hlt, _⟩ := List.getElem?_eq_some_iff.1 hp
    have hr := h.row
    rw [Nat.zero_add]
    exact ⟨p.2, (hr.cellAt _ (by omega)).trans a0, (hr.cellAt _ (by omega)).trans a1, (hr.cellAt _ (by omega)).trans a2, (hr.cellAt _ (by omega)).trans a3, (h.own p (List.mem_of_getElem? hp)).row⟩
theorem evC_one {s : Nat} {w : World} {v : Value} {P : List EvP} (h : EvsOwn s w v P) : ∀ u ∈ evC P, u.oneCell' = true := by
  intro u hu
  unfold evC at hu
  obtain ⟨p, hp, hu⟩ := List.mem_flatMap.1 hu
  simp at hu
  rcases hu with rfl | rfl | rfl | rfl
  · rfl
  · rfl
  · rfl
  · obtain ⟨a, c, e⟩ := (h.own p hp).slice
    rw [e]; rfl
/-- Events laid behind others. -/
theorem PartsAt.more {s s2 : Nat} {w w1 : World} {v v' v2 : Value} {P P2 : List EvP} (h : PartsAt s w v P) (h2 : EvsOwn s2 w v2 P2) (hs : s ≤ s2) (hown : w1.ownsRow s 26 4 v' (P.length + P2.length) (evC P ++ evC P2)) (hg : w.grownBy w1 v.ownBlock) : PartsAt s w1 v' (P ++ P2) := by
  refine ⟨by rw [List.length_append, evC_append]; exact hown, fun p hp => ?_⟩
  have hk : ∀ {q : Value} {L : List Int}, OwnBytes s w q L → OwnBytes s w1 q L := fun {q L} hq =>
    ownsRow_keep hq fun g hqg _ hl => hg.block g hl fun ee => ev_ne h.row hq g ee.symm hqg
  rcases List.mem_append.1 hp with hp | hp
  · exact hk (h.own p hp)
  · exact hk ((h2.own p hp).lower hs)
theorem parts0 {s : Nat} {w : World} (h : s ≤ w.heap.size) : PartsAt s (w.alloc (.cells #[] 26)) (.slice (some ⟨w.heap.size, 0, none⟩) 0 0) [] :=
  ⟨⟨rfl, .inr ⟨w.heap.size, 0, #[], rfl, h, heap_alloc_new w _, by simp, by simp [maxLen], rfl, by simp [evC]⟩⟩, by simp⟩
theorem totE_append (A B : List Ev) : totE (A ++ B) = totE A + totE B := by simp [totE]
/-- What a round of the parts finds. -/
structure CR (s d : Nat) (L : List Int) (W6 : World) (c r kc : Nat) (rest parts : Value) (P : List EvP) (De : Dec) (wr : World) : Prop where
  rest : RowIn (fun k => k < d) .u8 wr rest (L.drop c)
  dec : DecAt wr (d + 1) De
  st : De.state ≤ 4
  parts : PartsAt s wr parts P
  ok : PartsOk De (P.map (·.1)) (L.take c)
  len : P.length ≤ 2 * c
  tot : totE (P.map (·.1)) + pend De ≤ c
  t : Turn (fun k => k = d + 1 ∨ s ≤ k) W6 wr
def CutRel (s d : Nat) (L : List Int) (W6 : World) (n m : Nat) (parts rest i : Value) (wr : World) : Prop :=
  ∃ (j c r kc : Nat) (ra : Option Addr) (P : List EvP) (De : Dec), j ≤ m ∧ i = .int .i64 j ∧ rest = .slice ra r kc ∧ c + r = n ∧ r ≤ kc ∧ CR s d L W6 c r kc rest parts P De wr
/-- A part more. -/
theorem CR.next {s d c r kc p r' kc' : Nat} {L : List Int} {W6 wr W2 w5 : World} {rest rest' parts parts' v2 : Value} {P P2 : List EvP} {De : Dec} {n : Nat}
    (h : CR s d L W6 c r kc rest parts P De wr) (hn : n = L.length) (hcr : c + r = n) (hp : p ≤ r) (hds : d + 1 < s) (hs : s ≤ wr.heap.size)
    (hD : DecAt W2 (d + 1) (feedD De ((L.drop c).take p)).1) (hE : EvsOwn wr.heap.size W2 v2 P2) (hP2 : P2.map (·.1) = (feedD De ((L.drop c).take p)).2) (hT : Turn (fun k => k = d + 1 ∨ wr.heap.size ≤ k) wr W2)
    (hown : w5.ownsRow s 26 4 parts' (P.length + P2.length) (evC P ++ evC P2)) (hg : W2.grownBy w5 parts.ownBlock)
    (hrest : RowIn (fun k => k < d) .u8 wr rest' (L.drop (c + p))) : CR s d L W6 (c + p) r' kc' rest' parts' (P ++ P2) (feedD De ((L.drop c).take p)).1 w5 := by
  have hlen : ((L.drop c).take p).length = p := by rw [List.length_take, List.length_drop]; omega
  have hfine := feedD_fine De ((L.drop c).take p) h.st (by obtain ⟨A, _, k⟩ := h.dec; exact k.le)
  have hpot := feed_pot De ((L.drop c).take p)
  rw [hlen] at hfine hpot
  have hpw := h.parts.turn hT fun k hk => by omega
  have hrowb : ∀ k, parts.ownBlock = some k → s ≤ k := row_first h.parts.row
  have hT2 : Turn (fun k => k = d + 1 ∨ s ≤ k) W2 w5 := ⟨hg.os, hg.tape, hg.output, hg.size, fun k hk hS => hg.block k hk fun e => hS (.inr (hrowb k e.symm))⟩
  have hT1 : Turn (fun k => k = d + 1 ∨ s ≤ k) wr W2 := hT.mono fun k hk => by omega
  have htot : totE (P2.map (·.1)) = totE (feedD De ((L.drop c).take p)).2 := by rw [hP2]
  have htk : L.take (c + p) = L.take c ++ (L.drop c).take p := by rw [List.take_add]
  have hT2s : Turn (fun k => s ≤ k) W2 w5 := ⟨hg.os, hg.tape, hg.output, hg.size, fun k hk hS => hg.block k hk fun e => hS (hrowb k e.symm)⟩
  refine ⟨hrest.turn (hT1.trans hT2) fun b hb => by omega, hD.turn hT2s (by omega), hfine.state, hpw.more hE hs hown hg, ?_, ?_, ?_, (h.t.trans hT1).trans hT2⟩
  · rw [List.map_append, hP2, htk]
    exact parts_next h.ok
  · have h1 : P2.length = (feedD De ((L.drop c).take p)).2.length := by rw [← hP2, List.length_map]
    have h2 := hfine.many
    have h3 := h.len
    rw [List.length_append]
    omega
  · have h3 := h.tot
    rw [List.map_append, totE_append]
    omega
theorem more_none {s : Nat} {w : World} {v : Value} {P : List EvP} (h : PartsAt s w v P) : w.ownsRow s 26 4 v (P.length + ([] : List EvP).length) (evC P ++ evC []) := by simpa [evC] using h.row
theorem grown_refl (w : World) (r : Option Nat) : w.grownBy w r := ⟨rfl, rfl, rfl, Nat.le_refl _, fun _ _ _ => rfl⟩
end Go.Proofs.Ytimidoaafllnkaa.Iac
