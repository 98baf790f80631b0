/-
  Two clocks, one of which goes in parts: what the walk of ClockParts needs.
-/
import Derived.Test.YtndhhpiklaffoaaClockNextsA
import Derived.Laws.AppendOwnNone
namespace Go.Proofs.Ytndhhpiklaffoaa.Clock
open Go.RowKit
open Mail (Turn ret_int ret_bool sameInts_any RowOf ownsRow_base info_int)
set_option linter.unusedVariables false

theorem i64_mask (n : Int) (m k : Nat) (hk : k ≤ 63) (hm : (BitVec.ofInt 64 (m : Int)).toNat = 2 ^ k - 1) (hp : (2 ^ k : Nat) ≤ 9223372036854775807) : bits .and .i64 n (m : Int) = n % ((2 ^ k : Nat) : Int) := by
  have key : (BitVec.ofInt 64 n &&& BitVec.ofInt 64 (m : Int)).toNat = (n % ((2 ^ 64 : Nat) : Int)).toNat % 2 ^ k := by
    rw [BitVec.toNat_and, BitVec.toNat_ofInt, hm, Nat.and_two_pow_sub_one_eq_mod]
  show IntKind.i64.wrap ((BitVec.ofInt 64 n &&& BitVec.ofInt 64 (m : Int)).toNat : Nat) = n % ((2 ^ k : Nat) : Int)
  rw [key]
  have hpos : 0 < 2 ^ k := Nat.two_pow_pos k
  have hdvd : ((2 ^ k : Nat) : Int) ∣ ((2 ^ 64 : Nat) : Int) := by
    have : 2 ^ k ∣ 2 ^ 64 := Nat.pow_dvd_pow 2 (by omega)
    exact Int.natCast_dvd_natCast.mpr this
  have h0 : 0 ≤ n % ((2 ^ 64 : Nat) : Int) := Int.emod_nonneg _ (by decide)
  have h1 : (((n % ((2 ^ 64 : Nat) : Int)).toNat % 2 ^ k : Nat) : Int) = n % ((2 ^ k : Nat) : Int) := by
    rw [Int.natCast_emod, Int.toNat_of_nonneg h0, Int.emod_emod_of_dvd _ hdvd]
  have h2 : n % ((2 ^ k : Nat) : Int) < ((2 ^ k : Nat) : Int) := Int.emod_lt_of_pos _ (by omega)
  have h3 : 0 ≤ n % ((2 ^ k : Nat) : Int) := Int.emod_nonneg _ (by omega)
  rw [h1]
  exact IntWalk.i64_in _ (by omega)
theorem and1023 (n : Int) : bits .and .i64 n 1023 = n % 1024 := i64_mask n 1023 10 (by decide) (by decide) (by decide)
theorem and255 (n : Int) : bits .and .i64 n 255 = n % 256 := i64_mask n 255 8 (by decide) (by decide) (by decide)

/-! ### Two clocks -/
structure Both (s : Nat) (w W : World) (na : Int) (La : List (Int × Int)) (nb : Int) (Lb : List (Int × Int)) : Prop where
  a : ClockAt W s na La
  fa : WF na La
  b : ClockAt W (s + 1) nb Lb
  fb : WF nb Lb
  old : Below s w W
def Rung2 (s : Nat) (W : World) (v : Value) (X : List Int) : Prop := W.ownsRow (s + 2) 3 1 v X.length (X.map (Value.int .i64))
section
variable {s : Nat} {w W W' : World} {na nb : Int} {La Lb : List (Int × Int)}
theorem Rung2.turnA {v : Value} {X : List Int} (h : Rung2 s W v X) (t : Turn (At s) W W') : Rung2 s W' v X := row_turn h (by omega) t
theorem Rung2.turnB {v : Value} {X : List Int} (h : Rung2 s W v X) (t : Turn (At (s + 1)) W W') : Rung2 s W' v X := row_turn h (by omega) t
theorem Rung2.row {v : Value} {X : List Int} (h : Rung2 s W v X) : RowOf .i64 W v X := RowOf.of_owns h
theorem Rung2.below {v : Value} {X : List Int} (h : Rung2 s W v X) (u : Below W.heap.size W W') : Rung2 s W' v X := h.turnA (Mail.Turn.of_below u)
theorem Both.lt (h : Both s w W na La nb Lb) : s + 2 ≤ W.heap.size := by have := h.b.lt; omega
theorem Both.turnA {na' : Int} {La' : List (Int × Int)} (h : Both s w W na La nb Lb) (c : ClockAt W' s na' La') (f : WF na' La') (u : Turn (At s) W W') : Both s w W' na' La' nb Lb :=
  ⟨c, f, h.b.keep (u.block (s + 1) h.b.lt (by unfold At; omega)), h.fb, h.old.trans (u.below (by have := h.lt; omega) (by unfold At; omega))⟩
theorem Both.turnB {nb' : Int} {Lb' : List (Int × Int)} (h : Both s w W na La nb Lb) (c : ClockAt W' (s + 1) nb' Lb') (f : WF nb' Lb') (u : Turn (At (s + 1)) W W') : Both s w W' na La nb' Lb' :=
  ⟨h.a.keep (u.block s (by have := h.lt; omega) (by unfold At; omega)), h.fa, c, f, h.old.trans (u.below (by have := h.lt; omega) (by unfold At; omega))⟩
theorem Both.below (h : Both s w W na La nb Lb) (u : Below (s + 2) W W') : Both s w W' na La nb Lb :=
  ⟨h.a.keep (u.block s (by omega)), h.fa, h.b.keep (u.block (s + 1) (by omega)), h.fb, h.old.trans (u.mono (by omega))⟩
theorem Both.alloc (h : Both s w W na La nb Lb) (o : Obj) : Both s w (W.alloc o) na La nb Lb := h.below ((Below.refl _ _).alloc h.lt o)
theorem Both.drewN (h : Both s w W na La nb Lb) (n : Nat) : Both s w (W.drewN n) na La nb Lb := ⟨h.a.drewN n, h.fa, h.b.drewN n, h.fb, below_drewN h.old n⟩
theorem Both.grown {v : Value} {n : Nat} {xs : List Value} (h : Both s w W na La nb Lb) (hr : W.ownsRow (s + 2) 3 1 v n xs) (hg : W.grownBy W' v.ownBlock) : Both s w W' na La nb Lb := by
  refine ⟨clock_grown h.a hr (by omega) hg, h.fa, clock_grown h.b hr (by omega) hg, h.fb, h.old.grown hg (by have := h.lt; omega) fun r e => ?_⟩
  rcases hr.2 with ⟨rfl, _⟩ | ⟨g, cap, cur, rfl, hg', _, _⟩
  · cases e
  · obtain rfl : r = g := by simpa [Value.ownBlock, eq_comm] using e
    omega
theorem setA (id t x : Int) (L' : List (Int × Int)) (h : Both s w W na La nb Lb) (hx : setE La id t = x) (hl : putA na La id t = L') :
    Calls Try.prog 27 #[.pointer (some ⟨s, 0, none⟩), .int .i64 id, .int .i64 t] W fun e W' => e = .returned (.int .i64 x) ∧ Both s w W' na L' nb Lb ∧ Turn (At s) W W' := by
  subst hx hl
  exact (set_any id t h.a h.fa).mono fun e W' ⟨he, c, u⟩ => ⟨he, h.turnA c (h.fa.put id t) u, u⟩
theorem setB (id t x : Int) (L' : List (Int × Int)) (h : Both s w W na La nb Lb) (hx : setE Lb id t = x) (hl : putA nb Lb id t = L') :
    Calls Try.prog 27 #[.pointer (some ⟨s + 1, 0, none⟩), .int .i64 id, .int .i64 t] W fun e W' => e = .returned (.int .i64 x) ∧ Both s w W' na La nb L' ∧ Turn (At (s + 1)) W W' := by
  subst hx hl
  exact (set_any id t h.b h.fb).mono fun e W' ⟨he, c, u⟩ => ⟨he, h.turnB c (h.fb.put id t) u, u⟩
theorem goA (t now' : Int) (h : Both s w W na La nb Lb) (h1 : stepI na t = now') :
    Calls Try.prog 32 #[.pointer (some ⟨s, 0, none⟩), .int .i64 t] W fun e W' => ∃ v, e = .returned v ∧ Rung2 s W' v (rungL now' La) ∧ Both s w W' now' (restL now' La) nb Lb ∧ Turn (At s) W W' := by
  subst h1
  refine (go_any t W h.a h.fa).mono ?_
  rintro e W' ⟨v, rfl, r, c, u⟩
  have := stepI_bd h.fa t
  exact ⟨v, rfl, ownsRow_base r h.lt, h.turnA c (h.fa.go (by have := h.fa.n0; omega) this.2) u, u⟩
theorem goB (t now' : Int) (h : Both s w W na La nb Lb) (h1 : stepI nb t = now') :
    Calls Try.prog 32 #[.pointer (some ⟨s + 1, 0, none⟩), .int .i64 t] W fun e W' => ∃ v, e = .returned v ∧ Rung2 s W' v (rungL now' Lb) ∧ Both s w W' na La now' (restL now' Lb) ∧ Turn (At (s + 1)) W W' := by
  subst h1
  refine (go_any t W h.b h.fb).mono ?_
  rintro e W' ⟨v, rfl, r, c, u⟩
  have := stepI_bd h.fb t
  exact ⟨v, rfl, ownsRow_base r h.lt, h.turnB c (h.fb.go (by have := h.fb.n0; omega) this.2) u, u⟩
theorem leftA (id x : Int) (t : Bool) (h : Both s w W na La nb Lb) (hx : leftI na La id = x) (ht : has La id = t) :
    Calls Try.prog 34 #[.pointer (some ⟨s, 0, none⟩), .int .i64 id] W fun e W' => e = .returned (.tuple #[.int .i64 x, .bool t]) ∧ Both s w W' na La nb Lb ∧ Turn (At s) W W' := by
  subst hx ht
  exact (left_any id h.a h.fa).mono fun e W' ⟨he, u⟩ => ⟨he, h.turnA (h.a.below u) h.fa (Mail.Turn.of_below u), Mail.Turn.of_below u⟩
theorem sameA {v u : Value} {X Y : List Int} (h : Both s w W na La nb Lb) (hx : RowOf .i64 W v X) (hy : RowOf .i64 W u Y) (hm : X.length ≤ maxLen) :
    Calls Try.prog 19 #[v, u] W fun e W' => e = .returned (.bool (decide (X = Y))) ∧ Both s w W' na La nb Lb ∧ Turn (At s) W W' := by
  refine (sameInts_any v u X Y W hx hy hm).mono ?_
  rintro e W' ⟨rfl, n, rfl⟩
  exact ⟨rfl, h.drewN n, ⟨rfl, rfl, rfl, Nat.le_refl _, fun _ _ _ => rfl⟩⟩
end
theorem both_new (w : World) : Both w.heap.size w ((w.alloc (.cells (clk 0 (fun _ => (0, 0)) 0) 57)).alloc (.cells (clk 0 (fun _ => (0, 0)) 0) 57)) 0 [] 0 [] := by
  have h1 := clock_new w
  have h2 := clock_new (w.alloc (.cells (clk 0 (fun _ => (0, 0)) 0) 57))
  have hz : (w.alloc (.cells (clk 0 (fun _ => (0, 0)) 0) 57)).heap.size = w.heap.size + 1 := by simp
  rw [hz] at h2
  exact ⟨h1.below ((Below.refl _ _).alloc (Nat.le_refl _) _), wf_new, h2, wf_new, ((Below.refl _ w).alloc (Nat.le_refl _) _).alloc (by simp) _⟩

/-! ### The alarms of the row -/
/-- The first k of the row's alarms were set. -/
def Fill (R : List Int) (k : Nat) (L : List (Int × Int)) : Prop := L.length = k ∧ ∀ q ∈ L, 0 ≤ q.2 ∧ q.2 < k ∧ q.1 = (R[q.2.toNat]?.getD 0) % 1024
theorem Fill.none {R : List Int} {k : Nat} {L : List (Int × Int)} (h : Fill R k L) : has L k = false := by
  rw [← Bool.not_eq_true, has_iff]
  rintro ⟨q, hq, he⟩
  have := h.2 q hq
  omega
theorem Fill.put {R : List Int} {k : Nat} {L : List (Int × Int)} (h : Fill R k L) (hk : k < 64) : setE L k ((R[k]?.getD 0) % 1024) = 0 ∧ Fill R (k + 1) (putA 0 L k ((R[k]?.getD 0) % 1024)) := by
  have h0 : 0 ≤ (R[k]?.getD 0) % 1024 := by omega
  have hn : ¬ (has L k = false ∧ L.length = 64) := by rintro ⟨_, h64⟩; rw [h.1] at h64; omega
  refine ⟨by unfold setE; rw [if_neg (by omega), if_neg hn], ?_, ?_⟩
  · unfold putA
    rw [if_neg (by omega), if_neg hn, insL_length, dropL_none h.none, h.1]
  · intro q hq
    rcases mem_putA hq with hq | ⟨rfl, _⟩
    · have := h.2 q hq; omega
    · refine ⟨by show (0 : Int) ≤ (k : Int); omega, by show (k : Int) < ((k + 1 : Nat) : Int); omega, ?_⟩
      show lateI 0 ((R[k]?.getD 0) % 1024) = (R[((k : Int)).toNat]?.getD 0) % 1024
      rw [show ((k : Int)).toNat = k by omega]
      unfold lateI; omega
theorem parts_split {L : List (Int × Int)} {t u : Int} (h : t ≤ u) : rungL t L ++ rungL u (restL t L) = rungL u L ∧ restL u (restL t L) = restL u L := by
  unfold rungL restL
  induction L with
  | nil => simp
  | cons q L ih =>
    by_cases hq : q.1 ≤ t
    · have hu : q.1 ≤ u := by omega
      simp [hq, hu]
      exact ih
    · simp [hq]
/-- What k steps that come to na leave of the alarms L0, and what they rang. -/
def St (L0 : List (Int × Int)) (k : Nat) (na : Int) (La : List (Int × Int)) (acc : List Int) : Prop :=
  (k = 0 ∧ na = 0 ∧ La = L0 ∧ acc = []) ∨ (0 < k ∧ La = restL na L0 ∧ acc = rungL na L0)
theorem St.next {L0 La : List (Int × Int)} {k : Nat} {na d : Int} {acc : List Int} (h : St L0 k na La acc) (hd : 0 ≤ d) : St L0 (k + 1) (na + d) (restL (na + d) La) (acc ++ rungL (na + d) La) := by
  rcases h with ⟨rfl, rfl, rfl, rfl⟩ | ⟨hk, rfl, rfl⟩
  · exact .inr ⟨by omega, by simp, by simp⟩
  · have := parts_split (L := L0) (show na ≤ na + d by omega)
    exact .inr ⟨by omega, this.2, this.1⟩
theorem St.mem {L0 La : List (Int × Int)} {k : Nat} {na : Int} {acc : List Int} (h : St L0 k na La acc) (hs : L0.Pairwise Lt) {q : Int × Int} (hq : q ∈ La) : q ∈ L0 ∧ (na = 0 ∨ na < q.1) := by
  rcases h with ⟨rfl, rfl, rfl, rfl⟩ | ⟨hk, rfl, rfl⟩
  · exact ⟨hq, .inl rfl⟩
  · rw [(rungL_filter hs).2, List.mem_filter] at hq
    exact ⟨hq.1, .inr (by simpa using hq.2)⟩
theorem rung_length (t : Int) (L : List (Int × Int)) : (rungL t L).length + (restL t L).length = L.length := by
  unfold rungL restL
  rw [List.length_map, ← List.length_append, List.takeWhile_append_dropWhile]
theorem St.length {L0 La : List (Int × Int)} {k : Nat} {na : Int} {acc : List Int} (h : St L0 k na La acc) (hs : L0.Pairwise Lt) : La.length + acc.length = L0.length := by
  rcases h with ⟨rfl, rfl, rfl, rfl⟩ | ⟨hk, rfl, rfl⟩
  · simp
  · have := rung_length na L0
    omega
theorem rung_mem {t : Int} {L : List (Int × Int)} {x : Int} (hs : L.Pairwise Lt) (h : x ∈ rungL t L) : ∃ q ∈ L, q.2 = x ∧ q.1 ≤ t := by
  rw [(rungL_filter hs).1] at h
  obtain ⟨q, hq, rfl⟩ := List.mem_map.1 h
  exact ⟨q, (List.mem_filter.1 hq).1, rfl, by simpa using (List.mem_filter.1 hq).2⟩
end Go.Proofs.Ytndhhpiklaffoaa.Clock
