/-
  Contracts of mail's First and Pour.
-/
import Derived.Test.YtndhhpiklaffoaaMailA
namespace Go.Proofs.Ytndhhpiklaffoaa.Mail
open Go.RowKit Go.Conc
set_option linter.unusedVariables false

/-! ### First -/
theorem ret_fst {k : Nat} {x : Int} : Ending.returned (.tuple #[.int .i64 x, .int .i64 (k : Int), .bool true]) = .returned (.tuple #[.int .i64 x, .int .i64 (k : Int), .bool true]) := rfl
/-- A row of pointers to queues. -/
def PtrsAt (w : World) (v : Value) (cs : List Nat) : Prop :=
  ∃ a cap, v = .slice a cs.length cap ∧ (cs ≠ [] → ∃ g off, a = some ⟨g, off, none⟩ ∧ ∀ i, i < cs.length → w.cell? ⟨g, off + i, none⟩ = some (.pointer (some ⟨cs.getD i 0 + 1, 0, none⟩)))
set_option maxHeartbeats 1000000 in
theorem first_some (v : Value) (cs : List Nat) (k : Nat) (room : Nat) (x : Int) (xs : List Int) (shut : Bool) (w : World) (hp : PtrsAt w v cs) (hk : k < cs.length) (hl : cs.length ≤ 1000)
    (h0 : ∀ j, j < k → ∃ r s, QAt w (cs.getD j 0) r [] s) (h1 : QAt w (cs.getD k 0) room (x :: xs) shut) :
    Calls Try.prog 25 #[v] w fun e w' => e = .returned (.tuple #[.int .i64 x, .int .i64 k, .bool true]) ∧ QAt w' (cs.getD k 0) room xs shut ∧ Turn (Of (cs.getD k 0)) w w' ∧ w'.heap.size = w.heap.size := by
  obtain ⟨a, cap, rfl, hr⟩ := hp
  obtain ⟨g, off, rfl, hc⟩ := hr (by intro e; rw [e] at hk; simp at hk)
  obtain ⟨n, hn⟩ : ∃ n, n = cs.length := ⟨_, rfl⟩
  rw [← hn] at hk hl hc ⊢
  obtain ⟨c, hcc⟩ : ∃ c, c = cs.getD k 0 := ⟨_, rfl⟩
  rw [← hcc] at h1 ⊢
  have HN := Lib.hid hn
  have HC := Lib.hid hc
  have H0 := Lib.hid h0
  have HCC := Lib.hid hcc
  clear hn hc h0 hr hcc
  go_enter Try.func25, Try.ntmps25
  go_wp2
  go_loop [12] (fun i => ∃ j : Nat, j ≤ k ∧ i = .int .i64 j) (fun i => n - (intOf i).toNat)
  case atStart => exact ⟨0, Nat.zero_le _, rfl⟩
  case round =>
    obtain ⟨j, hj, rfl⟩ := hrel
    have hcell := HC.out j (by omega)
    by_cases hjk : j = k
    · subst hjk
      rw [← HCC.out] at hcell
      go_wp2_with (go_at_call 23; refine (get_cons _ _ _ _ _ _ h1).mono ?_; rintro e w' ⟨rfl, hq, ht, hz⟩)
      refine bodyPost_ret (v := .tuple #[.int .i64 x, .int .i64 j, .bool true]) (by simp [results, Try.results25, go_sem]) rfl ?_
      exact ⟨rfl, hq, ht, hz⟩
    · obtain ⟨r, s, H⟩ := H0.out j (by omega)
      obtain ⟨c, hcc⟩ : ∃ c, c = cs.getD j 0 := ⟨_, rfl⟩
      rw [← hcc] at hcell H
      have HCC := Lib.hid hcc
      clear hcc
      go_wp2_with (go_at_call 23; refine (get_nil _ _ _ _ H).mono ?_; rintro e w' ⟨rfl, rfl⟩)
      go_round
      case rel => exact ⟨j + 1, by omega, by go_num⟩
      case measure => simp [intOf]; omega
set_option maxHeartbeats 1000000 in
theorem first_none (v : Value) (cs : List Nat) (w : World) (hp : PtrsAt w v cs) (hl : cs.length ≤ 1000)
    (h0 : ∀ j, j < cs.length → ∃ r s, QAt w (cs.getD j 0) r [] s) :
    Calls Try.prog 25 #[v] w fun e w' => e = .returned (.tuple #[.int .i64 0, .int .i64 0, .bool false]) ∧ w' = w := by
  obtain ⟨a, cap, rfl, hr⟩ := hp
  obtain ⟨n, hn⟩ : ∃ n, n = cs.length := ⟨_, rfl⟩
  rw [← hn] at hl hr h0 ⊢
  have HN := Lib.hid hn
  have HR := Lib.hid hr
  have H0 := Lib.hid h0
  clear hn hr h0
  go_enter Try.func25, Try.ntmps25
  go_wp2
  go_loop [12] (fun i => ∃ j : Nat, j ≤ n ∧ i = .int .i64 j) (fun i => n - (intOf i).toNat)
  case atStart => exact ⟨0, Nat.zero_le _, rfl⟩
  case round =>
    obtain ⟨j, hj, rfl⟩ := hrel
    by_cases hjn : j < n
    · obtain ⟨g, off, rfl, hc⟩ := HR.out (by intro e; have := HN.out; rw [e] at this; simp at this; omega)
      have hcell := hc j hjn
      clear hc
      obtain ⟨r, s, H⟩ := H0.out j (by omega)
      obtain ⟨c, hcc⟩ : ∃ c, c = cs.getD j 0 := ⟨_, rfl⟩
      rw [← hcc] at hcell H
      have HCC := Lib.hid hcc
      clear hcc
      go_wp2_with (go_at_call 23; refine (get_nil _ _ _ _ H).mono ?_; rintro e w' ⟨rfl, rfl⟩)
      go_round
      case rel => exact ⟨j + 1, by omega, by go_num⟩
      case measure => simp [intOf]; omega
    · obtain rfl : j = n := by omega
      go_wp2
      refine bodyPost_ret (v := .tuple #[.int .i64 0, .int .i64 0, .bool false]) (by simp [results, Try.results25, go_sem]) rfl ?_
      exact ⟨rfl, rfl⟩

/-! ### Pour -/
def pourN (r2 : Nat) (s2 : Bool) (xs ys : List Int) : Nat := if s2 then 0 else min (r2 - ys.length) xs.length
theorem pour_self (c r : Nat) (xs : List Int) (s : Bool) (w : World) (h : QAt w c r xs s) :
    Calls Try.prog 24 #[.pointer (some ⟨c + 1, 0, none⟩), .pointer (some ⟨c + 1, 0, none⟩)] w fun e w' => e = .returned (.int .i64 0) ∧ ∃ n, w' = w.drewN n := by
  have h0 := h.cell0
  have he := run_eql_chan c c
  simp only [decide_true] at he
  go_enter Try.func24, Try.ntmps24
  go_wp2
  go_quiet (fail)
  go_wp2
  go_ret
  exact ⟨rfl, _, rfl⟩

theorem Turn.drewN {S : Nat → Prop} {a b : World} (h : Turn S a b) (n : Nat) : Turn S a (b.drewN n) := ⟨h.os, h.tape, h.output, h.size, h.block⟩
theorem QAt.drewN {w : World} {c room : Nat} {xs : List Int} {shut : Bool} (h : QAt w c room xs shut) (n : Nat) : QAt (w.drewN n) c room xs shut := ⟨h.chan, h.box, h.fits, h.most⟩
/-- What a pour knows between two rounds. -/
def PourRel (c1 r1 c2 r2 : Nat) (xs ys : List Int) (s1 s2 : Bool) (w : World) (i : Value) (wr : World) : Prop :=
  ∃ k : Nat, k ≤ xs.length ∧ k + ys.length ≤ r2 ∧ (s2 = true → k = 0) ∧ i = .int .i64 k ∧ QAt wr c1 r1 (xs.drop k) s1 ∧ QAt wr c2 r2 (ys ++ xs.take k) s2 ∧ Turn (Or2 (Of c1) (Of c2)) w wr ∧ wr.heap.size = w.heap.size
/-- What a pour leaves. -/
def Poured (c1 r1 c2 r2 : Nat) (xs ys : List Int) (s1 s2 : Bool) (w : World) (e : Ending) (w' : World) : Prop :=
  e = .returned (.int .i64 (pourN r2 s2 xs ys)) ∧ QAt w' c1 r1 (xs.drop (pourN r2 s2 xs ys)) s1 ∧ QAt w' c2 r2 (ys ++ xs.take (pourN r2 s2 xs ys)) s2 ∧ Turn (Or2 (Of c1) (Of c2)) w w' ∧ w'.heap.size = w.heap.size
theorem poured_at {c1 r1 c2 r2 : Nat} {xs ys : List Int} {s1 s2 : Bool} {w wr : World} {k : Nat} (hk : k = pourN r2 s2 xs ys) (h1 : QAt wr c1 r1 (xs.drop k) s1) (h2 : QAt wr c2 r2 (ys ++ xs.take k) s2) (ht : Turn (Or2 (Of c1) (Of c2)) w wr) (hz : wr.heap.size = w.heap.size) :
    Poured c1 r1 c2 r2 xs ys s1 s2 w (.returned (.int .i64 k)) wr := by
  subst hk
  exact ⟨rfl, h1, h2, ht, hz⟩
set_option maxHeartbeats 1000000 in
set_option maxRecDepth 100000 in
theorem pour_any (c1 r1 c2 r2 : Nat) (xs ys : List Int) (s1 s2 : Bool) (w : World) (h1 : QAt w c1 r1 xs s1) (h2 : QAt w c2 r2 ys s2) (hd : c1 + 2 ≤ c2 ∨ c2 + 2 ≤ c1) :
    Calls Try.prog 24 #[.pointer (some ⟨c1 + 1, 0, none⟩), .pointer (some ⟨c2 + 1, 0, none⟩)] w (Poured c1 r1 c2 r2 xs ys s1 s2 w) := by
  have a0 := h1.cell0
  have b0 := h2.cell0
  have he := run_eql_chan c1 c2
  simp only [show decide (c1 = c2) = false from by simp; omega] at he
  have hf1 := h1.fits
  have hm1 := h1.most
  have hf2 := h2.fits
  have hm2 := h2.most
  have hk1 : ¬ Of c2 c1 ∧ ¬ Of c2 (c1 + 1) := by unfold Of; omega
  have hk2 : ¬ Of c1 c2 ∧ ¬ Of c1 (c2 + 1) := by unfold Of; omega
  go_enter Try.func24, Try.ntmps24
  go_wp2
  go_quiet (fail)
  go_wp2
  clear he a0 b0
  go_loopw [5, 6, 7] (fun i _ _ wr => PourRel c1 r1 c2 r2 xs ys s1 s2 w i wr) (fun i _ _ _ => xs.length + 1 - (intOf i).toNat)
  case atStart => exact ⟨0, by omega, by omega, fun _ => rfl, rfl, by simpa using h1.drewN _, by simpa using h2.drewN _, (Turn.refl _ w).drewN _, by simp⟩
  case round =>
    obtain ⟨k, hk, hkr, hks, rfl, q1, q2, ht, hz⟩ := hrel
    cases s2 with
    | true =>
      obtain rfl : k = 0 := hks rfl
      go_wp2_with (go_at_call 16; refine (room_any _ _ _ _ _ q2).mono ?_; rintro e w' ⟨rfl, n, rfl⟩; simp only [roomL, if_true])
      go_ret
      exact poured_at (by simp [pourN]) (q1.drewN _) (q2.drewN _) (ht.drewN _) (by simpa using hz)
    | false =>
      have hlen : ((ys ++ xs.take k).length) = ys.length + k := by simp; omega
      by_cases hfull : ys.length + k = r2
      · have hr0 : roomL r2 (ys ++ xs.take k) false = 0 := by unfold roomL; rw [hlen]; simp; omega
        have HF := Lib.hid hfull
        have HLEN := Lib.hid hlen
        clear hfull hlen
        go_wp2_with (go_at_call 16; refine (room_any _ _ _ _ _ q2).mono ?_; rintro e w' ⟨rfl, n, rfl⟩; rw [hr0])
        go_ret
        exact poured_at (by unfold pourN; have := HF.out; simp; omega) (q1.drewN _) (q2.drewN _) (ht.drewN _) (by simpa using hz)
      · have hr0 : roomL r2 (ys ++ xs.take k) false = ((r2 - (ys.length + k) : Nat) : Int) := by unfold roomL; rw [hlen]; simp; omega
        have hpos : 0 < r2 - (ys.length + k) := by omega
        have hput : putE r2 (ys ++ xs.take k) false = 0 := by unfold putE; rw [hlen]; simp; omega
        obtain ⟨d, hdd⟩ : ∃ d, d = r2 - (ys.length + k) := ⟨_, rfl⟩
        rw [← hdd] at hr0 hpos
        have HD := Lib.hid hdd
        have HF := Lib.hid hfull
        have HLEN := Lib.hid hlen
        have HP := Lib.hid hput
        have HR := Lib.hid hr0
        clear hfull hlen hput hr0 hdd
        by_cases hkx : k < xs.length
        · have hdrop : xs.drop k = xs[k] :: xs.drop (k + 1) := List.drop_eq_getElem_cons hkx
          have htake : xs.take (k + 1) = xs.take k ++ [xs[k]] := List.take_succ_eq_append_getElem hkx
          obtain ⟨x, hx⟩ : ∃ x, x = xs[k] := ⟨_, rfl⟩
          rw [← hx] at hdrop htake
          rw [hdrop] at q1
          have HT := Lib.hid htake
          clear hdrop htake hx
          go_wp2_with (first
            | (go_at_call 16; refine (room_any _ _ _ _ _ q2).mono ?_; rintro e w' ⟨rfl, n, rfl⟩; rw [HR.out])
            | (go_at_call 23; refine (get_cons _ _ _ _ _ _ (q1.drewN _)).mono ?_; rintro e w' ⟨rfl, q1', t1, z1⟩; have q2' := (q2.drewN n).keep t1 hk2.1 hk2.2)
            | (go_at_call 21; refine (put_any _ _ _ _ _ _ q2').mono ?_; rintro e w'' ⟨rfl, q2'', t2, z2⟩; have q1'' := q1'.keep t2 hk1.1 hk1.2))
          go_roundw
          case rel =>
            refine ⟨k + 1, by omega, ?_, (fun h => by cases h), by go_num, q1'', ?_, (ht.drewN n).trans ((t1.mono (fun _ h => .inl h)).trans (t2.mono (fun _ h => .inr h))), ?_⟩
            · have := HD.out; omega
            · rw [HT.out]
              have := HLEN.out
              have hl : (ys ++ xs.take k).length < r2 := by have := HD.out; omega
              have e : putL r2 (ys ++ xs.take k) false x = ys ++ (xs.take k ++ [x]) := by unfold putL; rw [if_neg (by simp), if_pos hl, List.append_assoc]
              rw [← e]
              exact q2''
            · simp at z1; omega
          case measure => simp [intOf]; omega
        · obtain rfl : k = xs.length := by omega
          rw [List.drop_length] at q1
          go_wp2_with (first
            | (go_at_call 16; refine (room_any _ _ _ _ _ q2).mono ?_; rintro e w' ⟨rfl, n, rfl⟩; rw [HR.out])
            | (go_at_call 23; refine (get_nil _ _ _ _ (q1.drewN _)).mono ?_; rintro e w' ⟨rfl, rfl⟩))
          go_ret
          exact poured_at (by unfold pourN; have := HD.out; simp; omega) (by rw [List.drop_length]; exact q1.drewN _) (q2.drewN _) (ht.drewN _) (by simpa using hz)
end Go.Proofs.Ytndhhpiklaffoaa.Mail
