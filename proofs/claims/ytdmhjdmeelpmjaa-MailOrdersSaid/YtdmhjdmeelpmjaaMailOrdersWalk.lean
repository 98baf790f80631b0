/-
  The walk of MailOrders.
-/
import Derived.Test.YtdmhjdmeelpmjaaMailE
import Derived.Test.YtdmhjdmeelpmjaaOpen
namespace Go.Proofs.Ytdmhjdmeelpmjaa.Mail
open Go.RowKit Go.Conc Go.Shelf
set_option linter.unusedVariables false

/-! ### Rows of numbers that follow one another -/
def span (a b : Nat) : List Int := (List.range (b - a)).map fun i => ((a + i : Nat) : Int)
theorem span_length (a b : Nat) : (span a b).length = b - a := by simp [span]
theorem span_self (a : Nat) : span a a = [] := by simp [span]
theorem span_snoc (a b : Nat) (h : a ≤ b) : span a b ++ [(b : Int)] = span a (b + 1) := by
  unfold span
  rw [show b + 1 - a = (b - a) + 1 by omega, List.range_succ, List.map_append]
  congr 1
  simp
  omega
theorem span_cons (a b : Nat) (h : a < b) : span a b = (a : Int) :: span (a + 1) b := by
  unfold span
  rw [show b - a = (b - (a + 1)) + 1 by omega, List.range_succ_eq_map]
  simp [Function.comp_def]
  intro i _
  omega

/-! ### A queue of numbers that follow one another -/
section
variable {w : World} {c room x y : Nat} {t : Bool}
theorem len_span (h : QAt w c room (span y x) t) (hy : y ≤ x) : Calls Try.prog 15 #[.pointer (some ⟨c + 1, 0, none⟩)] w fun e w' => e = .returned (.int .i64 ((x : Int) - (y : Int))) ∧ w = w' :=
  (len_any c room _ t w h).mono fun e w' ⟨he, hw⟩ => ⟨he.trans (ret_int (by rw [span_length]; omega)), hw⟩
theorem over_span (h : QAt w c room (span y x) t) (hy : y ≤ x) : Calls Try.prog 18 #[.pointer (some ⟨c + 1, 0, none⟩)] w fun e w' => e = .returned (.bool (t && ((x : Int) == (y : Int)))) ∧ w = w' :=
  (over_any c room _ t w h).mono fun e w' ⟨he, hw⟩ => ⟨he.trans (ret_bool (by
    congr 1
    by_cases hxy : x = y
    · subst hxy; simp [span_self]
    · rw [span_cons y x (by omega)]; simp; omega)), hw⟩
theorem put_span_shut (z : Int) (h : QAt w c room (span y x) true) : Calls Try.prog 21 #[.pointer (some ⟨c + 1, 0, none⟩), .int .i64 z] w fun e w' => e = .returned (.int .i64 60) ∧ QAt w' c room (span y x) true ∧ Turn (Of c) w w' :=
  (put_any c room _ true z w h).mono fun e w' ⟨he, q, u, _⟩ => ⟨he, q, u⟩
theorem put_span_room (h : QAt w c room (span y x) false) (hy : y ≤ x) (hr : x - y < room) : Calls Try.prog 21 #[.pointer (some ⟨c + 1, 0, none⟩), .int .i64 x] w fun e w' => e = .returned (.int .i64 0) ∧ QAt w' c room (span y (x + 1)) false ∧ Turn (Of c) w w' :=
  (put_any c room _ false x w h).mono fun e w' ⟨he, q, u, _⟩ => by
    have hl : (span y x).length < room := by rw [span_length]; exact hr
    refine ⟨he.trans (ret_int (by simp [putE, hl])), ?_, u⟩
    have e1 : putL room (span y x) false x = span y (x + 1) := by unfold putL; rw [if_neg (by simp), if_pos hl, span_snoc y x hy]
    rw [← e1]
    exact q
theorem put_span_full (z : Int) (h : QAt w c room (span y x) false) (hr : ¬ x - y < room) : Calls Try.prog 21 #[.pointer (some ⟨c + 1, 0, none⟩), .int .i64 z] w fun e w' => e = .returned (.int .i64 6) ∧ QAt w' c room (span y x) false ∧ Turn (Of c) w w' :=
  (put_any c room _ false z w h).mono fun e w' ⟨he, q, u, _⟩ => by
    have hl : ¬ (span y x).length < room := by rw [span_length]; exact hr
    refine ⟨he.trans (ret_int (by unfold putE; rw [if_neg (by simp), if_neg hl])), ?_, u⟩
    have e1 : putL room (span y x) false z = span y x := by unfold putL; rw [if_neg (by simp), if_neg hl]
    rw [← e1]
    exact q
theorem get_span (h : QAt w c room (span y x) t) (hy : y < x) : Calls Try.prog 23 #[.pointer (some ⟨c + 1, 0, none⟩)] w fun e w' => e = .returned (.tuple #[.int .i64 y, .bool true]) ∧ QAt w' c room (span (y + 1) x) t ∧ Turn (Of c) w w' := by
  rw [span_cons y x hy] at h
  exact (get_cons c room _ _ t w h).mono fun e w' ⟨he, q, u, _⟩ => ⟨he, q, u⟩
theorem get_span_none (h : QAt w c room (span y y) t) : Calls Try.prog 23 #[.pointer (some ⟨c + 1, 0, none⟩)] w fun e w' => e = .returned (.tuple #[.int .i64 0, .bool false]) ∧ w = w' := by
  rw [span_self] at h
  exact (get_nil c room t w h).mono fun e w' ⟨he, hw⟩ => ⟨he, hw.symm⟩
end

/-- What the loop knows. -/
def OrdRel (w : World) (c room n : Nat) (a b sh i : Value) (wr : World) : Prop :=
  ∃ (x y k : Nat) (t : Bool), y ≤ x ∧ x ≤ k ∧ k ≤ n ∧ a = .int .i64 x ∧ b = .int .i64 y ∧ sh = .bool t ∧ i = .int .i64 k ∧ QAt wr c room (span y x) t ∧ Below w.heap.size w wr

set_option maxRecDepth 100000 in
set_option maxHeartbeats 2000000 in
theorem mailOrders_walk (r : Int) (v : Value) (L : List (Int × Int × Bool)) (w : World) (hv : Open.OpsAt w v L) (hm : L.length ≤ maxLen) :
    Calls Try.prog 4 #[.int .i64 r, v] w fun e W' => e = .returned (.bool true) ∧ Below w.heap.size w W' := by
  obtain ⟨a, cap, rfl, hr⟩ := hv
  obtain ⟨n, hn⟩ : ∃ n, n = L.length := ⟨_, rfl⟩
  rw [← hn] at hm ⊢
  unfold maxLen at hm
  have HR := Lib.hid hr
  have HN := Lib.hid hn
  clear hr hn
  by_cases hbig : 80 < n
  · go_enter Try.func4, Try.ntmps4
    go_wp2_with (go_at_call 11; refine (alive_any _).mono ?_; rintro e w' ⟨rfl, hb⟩)
    go_ret
    exact ⟨rfl, hb⟩
  · have hle : n ≤ 80 := by omega
    have hd : decide ((80 : Int) < (n : Int)) = false := by simp; omega
    clear hbig
    go_enter Try.func4, Try.ntmps4
    go_upto_region 6 with (first | (go_at_call 11; refine (alive_any _).mono ?_; rintro e w1 ⟨rfl, hb1⟩) | (go_at_call 12; refine (new_any _ _).mono ?_; rintro e w2 ⟨rfl, q2, b2, z2⟩))
    go_cut [6] from 22 to 24 (fun s wx => s = .int .i64 (roomOf r : Nat) ∧ wx = w2)
    case first =>
      rcases (show r ≤ -1 ∨ r = 0 ∨ r = 1024 ∨ 1025 ≤ r ∨ ∃ k : Nat, r = k ∧ k ≤ 1024 from by
        by_cases h : r < 0
        · exact .inl (by omega)
        · by_cases h' : 1024 < r
          · exact .inr (.inr (.inr (.inl (by omega))))
          · exact .inr (.inr (.inr (.inr ⟨r.toNat, by omega, by omega⟩)))) with h | rfl | rfl | h | ⟨k, rfl, h⟩
      all_goals
        go_wp2
        go_meet
        refine ⟨?_, rfl⟩
        unfold roomOf
        first | rfl | (congr 1; omega)
    case rest =>
      obtain ⟨rfl, rfl⟩ := hcut
      obtain ⟨room, hroom⟩ : ∃ room, room = roomOf r := ⟨_, rfl⟩
      obtain ⟨c, hcc⟩ : ∃ c, c = w1.heap.size := ⟨_, rfl⟩
      rw [← hroom, ← hcc] at q2 ⊢
      have hB : Below w.heap.size w wc := hb1.trans (b2.mono hb1.size)
      have hcw : w.heap.size ≤ c := by rw [hcc]; exact hb1.size
      have hrm := q2.most
      clear hroom hcc hb1 b2 z2 hd
      go_wp2
      go_loopw [7, 8, 9, 27] (fun a b sh i wr => OrdRel w c room n a b sh i wr) (fun _ _ _ i _ => n - (intOf i).toNat)
      case atStart => exact ⟨0, 0, 0, false, by omega, by omega, by omega, rfl, rfl, rfl, rfl, q2, hB⟩
      case round =>
        obtain ⟨x, y, k, t, hyx, hxk, hk, rfl, rfl, rfl, rfl, q, hb⟩ := hrel
        by_cases hkn : k < n
        · obtain ⟨g, off, rfl, hg, hcells⟩ := HR.out (by intro e; have := HN.out; rw [e] at this; simp at this; omega)
          obtain ⟨kd, xv, bv, hL⟩ : ∃ kd xv bv, L[k]? = some (kd, xv, bv) := by
            have : k < L.length := by have := HN.out; omega
            exact ⟨L[k].1, L[k].2.1, L[k].2.2, by simp [this]⟩
          obtain ⟨c0, c1, c2⟩ := hcells k kd xv bv hL
          have d0 := (hb.cell (p := ⟨g, off + k * 3, none⟩) hg).trans c0
          have d1 := (hb.cell (p := ⟨g, off + k * 3 + 1, none⟩) hg).trans c1
          have d2 := (hb.cell (p := ⟨g, off + k * 3 + 2, none⟩) hg).trans c2
          clear hcells hL c0 c1 c2
          have hbz := hb.size
          have HB := Lib.hid hb
          have hf := q.fits
          rw [span_length] at hf
          have q0 : QAt (wr.alloc (.cells #[.int .i64 kd, .int .i64 xv, .bool bv] 33)) c room (span y x) t := q.below ((Below.refl _ wr).alloc (Nat.le_refl _) _) q.lt
          clear hb q2 hB
          rcases (show kd = 0 ∨ kd = 1 ∨ kd = 2 ∨ kd = 5 ∨ (kd ≠ 0 ∧ kd ≠ 1 ∧ kd ≠ 2 ∧ kd ≠ 5) from by omega) with rfl | rfl | rfl | rfl | hkd
          iterate 3
            · cases t with
              | true =>
                go_wp2_with fail
                refine (put_span_shut _ q0).mono ?_
                rintro e w' ⟨rfl, q1, u⟩
                have hb1 : Below w.heap.size w w' := HB.out.trans (((Below.refl _ wr).alloc hbz _).trans (u.below (by rw [World.size_alloc]; omega) (by unfold Of; omega)))
                have hf1 := q1.fits
                rw [span_length] at hf1
                have HB' := Lib.hid hb1
                clear hb1 u q0 q
                go_wp2_with (first | (go_at_call 15; refine (len_span q1 (by omega)).mono ?_; rintro e w' ⟨rfl, rfl⟩) | (go_at_call 18; refine (over_span q1 (by omega)).mono ?_; rintro e w' ⟨rfl, rfl⟩))
                go_roundw
                case rel => exact ⟨x, y, k + 1, true, by omega, by omega, by omega, by first | rfl | go_num, by first | rfl | go_num, rfl, by go_num, q1, HB'.out⟩
                case measure => simp [intOf]; omega
              | false =>
                by_cases hr : x - y < room
                · have hri : (x : Int) - (y : Int) < (room : Int) := by omega
                  go_wp2_with fail
                  refine (put_span_room q0 hyx hr).mono ?_
                  rintro e w' ⟨rfl, q1, u⟩
                  have hb1 : Below w.heap.size w w' := HB.out.trans (((Below.refl _ wr).alloc hbz _).trans (u.below (by rw [World.size_alloc]; omega) (by unfold Of; omega)))
                  have hf1 := q1.fits
                  rw [span_length] at hf1
                  have HB' := Lib.hid hb1
                  clear hb1 u q0 q
                  go_wp2_with (first | (go_at_call 15; refine (len_span q1 (by omega)).mono ?_; rintro e w' ⟨rfl, rfl⟩) | (go_at_call 18; refine (over_span q1 (by omega)).mono ?_; rintro e w' ⟨rfl, rfl⟩))
                  go_roundw
                  case rel => exact ⟨x + 1, y, k + 1, false, by omega, by omega, by omega, by first | rfl | go_num, by first | rfl | go_num, rfl, by go_num, q1, HB'.out⟩
                  case measure => simp [intOf]; omega
                · have hri : ¬ (x : Int) - (y : Int) < (room : Int) := by omega
                  go_wp2_with fail
                  refine (put_span_full _ q0 hr).mono ?_
                  rintro e w' ⟨rfl, q1, u⟩
                  have hb1 : Below w.heap.size w w' := HB.out.trans (((Below.refl _ wr).alloc hbz _).trans (u.below (by rw [World.size_alloc]; omega) (by unfold Of; omega)))
                  have hf1 := q1.fits
                  rw [span_length] at hf1
                  have HB' := Lib.hid hb1
                  clear hb1 u q0 q
                  go_wp2_with (first | (go_at_call 15; refine (len_span q1 (by omega)).mono ?_; rintro e w' ⟨rfl, rfl⟩) | (go_at_call 18; refine (over_span q1 (by omega)).mono ?_; rintro e w' ⟨rfl, rfl⟩))
                  go_roundw
                  case rel => exact ⟨x, y, k + 1, false, by omega, by omega, by omega, by first | rfl | go_num, by first | rfl | go_num, rfl, by go_num, q1, HB'.out⟩
                  case measure => simp [intOf]; omega
          · go_wp2_with fail
            refine (shut_any _ _ _ _ _ q0).mono ?_
            rintro e w' ⟨rfl, q1, u, _⟩
            have hb1 : Below w.heap.size w w' := HB.out.trans (((Below.refl _ wr).alloc hbz _).trans (u.below (by rw [World.size_alloc]; omega) (by unfold Of; omega)))
            have HB' := Lib.hid hb1
            clear hb1 u q0 q
            go_wp2_with (first | (go_at_call 15; refine (len_span q1 (by omega)).mono ?_; rintro e w' ⟨rfl, rfl⟩) | (go_at_call 18; refine (over_span q1 (by omega)).mono ?_; rintro e w' ⟨rfl, rfl⟩))
            go_roundw
            case rel => exact ⟨x, y, k + 1, true, by omega, by omega, by omega, by first | rfl | go_num, by first | rfl | go_num, rfl, by go_num, q1, HB'.out⟩
            case measure => simp [intOf]; omega
          · obtain ⟨k0, k1, k2, k5⟩ := hkd
            have e0 : (kd == 0) = false := by simpa using k0
            have e1 : (kd == 1) = false := by simpa using k1
            have e2 : (kd == 2) = false := by simpa using k2
            have e5 : (kd == 5) = false := by simpa using k5
            clear k0 k1 k2 k5
            cases t with
            | true =>
              by_cases hxy : y < x
              · have hxi : (y : Int) < (x : Int) := by omega
                go_wp2_with fail
                refine (get_span q0 hxy).mono ?_
                rintro e w' ⟨rfl, q1, u⟩
                have hb1 : Below w.heap.size w w' := HB.out.trans (((Below.refl _ wr).alloc hbz _).trans (u.below (by rw [World.size_alloc]; omega) (by unfold Of; omega)))
                have hf1 := q1.fits
                rw [span_length] at hf1
                have HB' := Lib.hid hb1
                clear hb1 u q0 q
                go_wp2_with (first | (go_at_call 15; refine (len_span q1 (by omega)).mono ?_; rintro e w' ⟨rfl, rfl⟩) | (go_at_call 18; refine (over_span q1 (by omega)).mono ?_; rintro e w' ⟨rfl, rfl⟩))
                go_roundw
                case rel => exact ⟨x, y + 1, k + 1, true, by omega, by omega, by omega, by first | rfl | go_num, by first | rfl | go_num, rfl, by go_num, q1, HB'.out⟩
                case measure => simp [intOf]; omega
              · obtain rfl : y = x := by omega
                go_wp2_with fail
                refine (get_span_none q0).mono ?_
                rintro e w' ⟨rfl, rfl⟩
                have hb1 : Below w.heap.size w (wr.alloc (.cells #[.int .i64 kd, .int .i64 xv, .bool bv] 33)) := HB.out.trans ((Below.refl _ wr).alloc hbz _)
                have HB' := Lib.hid hb1
                have q1 := q0
                clear hb1 q0 q
                go_wp2_with (first | (go_at_call 15; refine (len_span q1 (by omega)).mono ?_; rintro e w' ⟨rfl, rfl⟩) | (go_at_call 18; refine (over_span q1 (by omega)).mono ?_; rintro e w' ⟨rfl, rfl⟩))
                go_roundw
                case rel => exact ⟨y, y, k + 1, true, by omega, by omega, by omega, by first | rfl | go_num, by first | rfl | go_num, rfl, by go_num, q1, HB'.out⟩
                case measure => simp [intOf]; omega
            | false =>
              by_cases hxy : y < x
              · have hxi : (y : Int) < (x : Int) := by omega
                go_wp2_with fail
                refine (get_span q0 hxy).mono ?_
                rintro e w' ⟨rfl, q1, u⟩
                have hb1 : Below w.heap.size w w' := HB.out.trans (((Below.refl _ wr).alloc hbz _).trans (u.below (by rw [World.size_alloc]; omega) (by unfold Of; omega)))
                have hf1 := q1.fits
                rw [span_length] at hf1
                have HB' := Lib.hid hb1
                clear hb1 u q0 q
                go_wp2_with (first | (go_at_call 15; refine (len_span q1 (by omega)).mono ?_; rintro e w' ⟨rfl, rfl⟩) | (go_at_call 18; refine (over_span q1 (by omega)).mono ?_; rintro e w' ⟨rfl, rfl⟩))
                go_roundw
                case rel => exact ⟨x, y + 1, k + 1, false, by omega, by omega, by omega, by first | rfl | go_num, by first | rfl | go_num, rfl, by go_num, q1, HB'.out⟩
                case measure => simp [intOf]; omega
              · obtain rfl : y = x := by omega
                go_wp2_with fail
                refine (get_span_none q0).mono ?_
                rintro e w' ⟨rfl, rfl⟩
                have hb1 : Below w.heap.size w (wr.alloc (.cells #[.int .i64 kd, .int .i64 xv, .bool bv] 33)) := HB.out.trans ((Below.refl _ wr).alloc hbz _)
                have HB' := Lib.hid hb1
                have q1 := q0
                clear hb1 q0 q
                go_wp2_with (first | (go_at_call 15; refine (len_span q1 (by omega)).mono ?_; rintro e w' ⟨rfl, rfl⟩) | (go_at_call 18; refine (over_span q1 (by omega)).mono ?_; rintro e w' ⟨rfl, rfl⟩))
                go_roundw
                case rel => exact ⟨y, y, k + 1, false, by omega, by omega, by omega, by first | rfl | go_num, by first | rfl | go_num, rfl, by go_num, q1, HB'.out⟩
                case measure => simp [intOf]; omega
        · obtain rfl : k = n := by omega
          have hf := q.fits
          rw [span_length] at hf
          have HB := Lib.hid hb
          clear hb q2 hB
          go_wp2_with fail
          refine (taken_any _ _ _ _ 2000 (by omega) (by omega) _ q).mono ?_
          rintro e w' ⟨v, rfl, hown, q1, u⟩
          have hb1 : Below w.heap.size w w' := HB.out.trans (u.below HB.out.size (by unfold Of; omega))
          have HB' := Lib.hid hb1
          obtain ⟨a', cap', rfl, _⟩ := RowOf.of_owns hown
          rw [List.take_of_length_le (by rw [span_length]; omega), span_length]
          rw [List.drop_of_length_le (by rw [span_length]; omega)] at q1
          obtain ⟨m, hmm⟩ : ∃ m, m = x - y := ⟨_, rfl⟩
          have hsub : ((m : Int) == (x : Int) - (y : Int)) = true := by simp; omega
          rw [← hmm]
          clear hb1 u q hown hmm
          go_wp2_with (go_at_call 15; refine (len_any _ _ _ _ _ q1).mono ?_; rintro e w' ⟨rfl, rfl⟩)
          go_ret
          exact ⟨rfl, HB'.out⟩
/-- The walk, as the frame wants it. -/
theorem mailOrders_law {w : World} (r : Int) (_ : (Lit.int .i64 r).wf = true) (v : Value) (L : List (Int × Int × Bool)) (h : Open.OpsAt w v L ∧ L.length ≤ maxLen ∧ ∀ p ∈ L, Open.I64 p.1 ∧ Open.I64 p.2.1) :
    Calls Try.prog 4 #[.int .i64 r, v] w fun e W' => e = .returned (.bool true) ∧ Below w.heap.size w W' :=
  mailOrders_walk r v L w h.1 h.2.1
end Go.Proofs.Ytdmhjdmeelpmjaa.Mail
