/-
  The walk of TalkAgrees.
-/
import Derived.Test.YtkolhjglehnigaaTalkG
import Derived.Test.YtkolhjglehnigaaOpenE
import Derived.Test.YtkolhjglehnigaaOpenH
namespace Go.Proofs.Ytkolhjglehnigaa.Talk
open Go.RowKit Base Opt
set_option linter.unusedVariables false

/-- The verbs in memory. -/
def VerbsAt (W : World) (g : Nat) : Prop := ∀ i, i < 6 → W.cell? ⟨g, i * 4, none⟩ = some (.int .i64 4) ∧ W.cell? ⟨g, i * 4 + 1, none⟩ = some (.int .u8 (vc i)) ∧ W.cell? ⟨g, i * 4 + 2, none⟩ = some (.int .u8 (vo i)) ∧ W.cell? ⟨g, i * 4 + 3, none⟩ = some (.slice none 0 0)
theorem VerbsAt.turn {W W' : World} {g b : Nat} (h : VerbsAt W g) (t : Turn (At b) W W') (hne : g ≠ b) : VerbsAt W' g := by
  intro i hi
  obtain ⟨h0, h1, h2, h3⟩ := h i hi
  have hlt : g < W.heap.size := World.block_lt_of_cell? W ⟨g, i * 4, none⟩ h0
  have hb := t.block g hlt hne
  exact ⟨(cell_block hb _).trans h0, (cell_block hb _).trans h1, (cell_block hb _).trans h2, (cell_block hb _).trans h3⟩
theorem VerbsAt.below {W W' : World} {g : Nat} (h : VerbsAt W g) (t : Below W.heap.size W W') : VerbsAt W' g := by
  intro i hi
  obtain ⟨h0, h1, h2, h3⟩ := h i hi
  have hlt : g < W.heap.size := World.block_lt_of_cell? W ⟨g, i * 4, none⟩ h0
  have hb := t.block g hlt
  exact ⟨(cell_block hb _).trans h0, (cell_block hb _).trans h1, (cell_block hb _).trans h2, (cell_block hb _).trans h3⟩
theorem verbs_new (W : World) : VerbsAt (W.alloc (.cells #[.int .i64 4, .int .u8 253, .int .u8 24, .slice none 0 0, .int .i64 4, .int .u8 253, .int .u8 25, .slice none 0 0, .int .i64 4, .int .u8 251, .int .u8 25, .slice none 0 0, .int .i64 4, .int .u8 253, .int .u8 0, .slice none 0 0, .int .i64 4, .int .u8 251, .int .u8 0, .slice none 0 0, .int .i64 4, .int .u8 253, .int .u8 40, .slice none 0 0] 26)) W.heap.size := by
  intro i hi
  have h6 : i = 0 ∨ i = 1 ∨ i = 2 ∨ i = 3 ∨ i = 4 ∨ i = 5 := by omega
  rcases h6 with rfl | rfl | rfl | rfl | rfl | rfl <;> simp [go_sem, vc, vo]
/-- The talk, and the verbs. -/
structure AgQ (w : World) (g b : Nat) (nm : ByteArray) (M : Nat → Bool) (S : Nat → Nat) (nd : Bool) (W : World) : Prop where
  tq : TQ w b nm M S nd W
  vb : VerbsAt W g
  ne : g ≠ b
theorem AgQ.below {w W W' : World} {g b : Nat} {nm : ByteArray} {M : Nat → Bool} {S : Nat → Nat} {nd : Bool} (h : AgQ w g b nm M S nd W) (t : Below W.heap.size W W') : AgQ w g b nm M S nd W' := ⟨h.tq.below t, h.vb.below t, h.ne⟩
theorem AgQ.turn {w W W' : World} {g b : Nat} {nm : ByteArray} {M : Nat → Bool} {S S' : Nat → Nat} {nd nd' : Bool} (h : AgQ w g b nm M S nd W) (t : Turn (At b) W W') (k : TalkAt W' b nm M S' nd') : AgQ w g b nm M S' nd' W' := ⟨h.tq.turn t k, h.vb.turn t h.ne, h.ne⟩
/-- A verb taken. -/
theorem take_one {w W : World} {g b : Nat} {nm : ByteArray} {ext : Bool} {S : Nat → Nat} (h : AgQ w g b nm (M0 ext) S false W) (hi : Inv ext S) (hnm : nm.size ≤ 16) (q : Nat) (hq : q < 6) :
    Calls Try.prog 38 #[.pointer (some ⟨b, 0, none⟩), .agg #[.int .i64 4, .int .u8 (vc q), .int .u8 (vo q), .slice none 0 0]] W fun e W' => ∃ a m c, e = .returned (.slice a m c) ∧ m ≤ 3 ∧ AgQ w g b nm (M0 ext) (gotS (M0 ext) S (vc q) (vo q)).1 false W' := by
  refine (take_verb h.tq hi.le5 (by omega) (vc q) (vo q) (vo_lt q) ((gotS (M0 ext) S (vc q) (vo q)).1, false, (gotS (M0 ext) S (vc q) (vo q)).2) rfl).mono ?_
  rintro e W' ⟨p, rfl, h1, h2, h3⟩
  obtain ⟨a, c, rfl⟩ := h2.form
  exact ⟨a, _, c, rfl, got_len _ _ _ hq, h1, h.vb.turn h3 h.ne, h.ne⟩
def AgRel (w : World) (g b : Nat) (nm : ByteArray) (ext : Bool) (n : Nat) (i : Value) (wr : World) : Prop := ∃ k S, k ≤ n ∧ i = .int .i64 (k : Nat) ∧ Inv ext S ∧ AgQ w g b nm (M0 ext) S false wr
def AgRel2 (w : World) (g b : Nat) (nm : ByteArray) (ext : Bool) (S : Nat → Nat) (i : Value) (wr : World) : Prop := ∃ k, k ≤ 6 ∧ i = .int .i64 (k : Nat) ∧ AgQ w g b nm (M0 ext) (SK ext S k) false wr
theorem basic_no {w : World} {b : Nat} {nm : ByteArray} {M : Nat → Bool} {S : Nat → Nat} (h : TalkAt w b nm M S false) : Calls Try.prog 43 #[.pointer (some ⟨b, 0, none⟩)] w fun e w' => e = .returned (.bool false) ∧ TalkAt w' b nm M S false ∧ Turn (At b) w w' := by
  refine (basic_any h).mono ?_
  rintro e w' ⟨rfl, ht, hu⟩
  exact ⟨by simp, ht.elim id id, hu⟩
theorem basic_yes {w : World} {b : Nat} {nm : ByteArray} {M : Nat → Bool} {S : Nat → Nat} (h : TalkAt w b nm M S true) (h1 : basicB S = true) (h2 : typeOn S = true) : Calls Try.prog 43 #[.pointer (some ⟨b, 0, none⟩)] w fun e w' => e = .returned (.bool true) ∧ TalkAt w' b nm M S true ∧ Turn (At b) w w' := by
  refine (basic_any h).mono ?_
  rintro e w' ⟨rfl, ht, hu⟩
  rw [h1, h2]
  rw [h2] at ht
  exact ⟨rfl, ht.elim id id, hu⟩
set_option maxRecDepth 100000 in
set_option maxHeartbeats 8000000 in
theorem talkAgrees_law {w : World} (s : ByteArray) (hsm : s.size ≤ maxLen) (ext : Bool) (v : Value) (L : List Int) (hL : RowOf .i64 w v L ∧ L.length ≤ maxLen ∧ ∀ n ∈ L, Open.I64 n) :
    Calls Try.prog 6 #[.string s, .bool ext, v] w fun e W' => e = .returned (.bool true) ∧ Below w.heap.size w W' := by
  have hze := (zero_of_info info_ev0).1
  obtain ⟨hr, hl, _⟩ := hL
  have HR := Lib.hid hr
  obtain ⟨av, cv, rfl, _⟩ := hr
  obtain ⟨n, hn⟩ : ∃ n, n = L.length := ⟨_, rfl⟩
  have HN := Lib.hid hn
  unfold maxLen at hl
  rw [← hn] at hl HR ⊢
  have HNEW : Hid (∀ w, Calls Try.prog 36 #[.string s, .bool ext] w (NewK (cleaned s) ext w)) := Lib.hid fun w => talk_new s ext w hsm
  have hcs := cleaned_size s
  have htl := told_length s
  generalize cleaned s = nm at *
  have HNM : Hid (nm.size ≤ 16) := Lib.hid (by omega)
  have HTL := Lib.hid htl
  have h0 : (0 : Int) ≤ s.size := Int.natCast_nonneg _
  clear hsm htl hn
  by_cases hbn : 20 < n
  · have hbn' : (20 : Int) < n := by omega
    go_enter Try.func6, Try.ntmps6
    go_wp2_with fail
    refine (talk_alive w).mono ?_
    rintro e W1 ⟨rfl, b1⟩
    go_wp2_with fail
    go_ret
    exact ⟨rfl, b1⟩
  have hni : (n : Int) ≤ 20 := by omega
  by_cases hbig : 100 < s.size
  · have hbig' : (100 : Int) < s.size := by omega
    go_enter Try.func6, Try.ntmps6
    go_wp2_with fail
    refine (talk_alive w).mono ?_
    rintro e W1 ⟨rfl, b1⟩
    go_wp2_with fail
    go_ret
    exact ⟨rfl, b1⟩
  have hsi : (s.size : Int) ≤ 100 := by omega
  have hcase : (s.size : Int) ≤ 16 ∧ (nm.size : Int) = (s.size : Int) ∨ (16 : Int) < s.size ∧ (nm.size : Int) = 16 := by omega
  clear hbig hbn hcs
  go_enter Try.func6, Try.ntmps6
  go_wp2_with fail
  refine (talk_alive w).mono ?_
  rintro e W1 ⟨rfl, hb1⟩
  have HB1 := Lib.hid hb1
  clear hb1
  have hv2 := verbs_new W1
  have hb2 := below_alloc W1 (.cells #[.int .i64 4, .int .u8 253, .int .u8 24, .slice none 0 0, .int .i64 4, .int .u8 253, .int .u8 25, .slice none 0 0, .int .i64 4, .int .u8 251, .int .u8 25, .slice none 0 0, .int .i64 4, .int .u8 253, .int .u8 0, .slice none 0 0, .int .i64 4, .int .u8 251, .int .u8 0, .slice none 0 0, .int .i64 4, .int .u8 253, .int .u8 40, .slice none 0 0] 26)
  obtain ⟨W2, hW2⟩ : ∃ W2, W2 = W1.alloc (.cells #[.int .i64 4, .int .u8 253, .int .u8 24, .slice none 0 0, .int .i64 4, .int .u8 253, .int .u8 25, .slice none 0 0, .int .i64 4, .int .u8 251, .int .u8 25, .slice none 0 0, .int .i64 4, .int .u8 253, .int .u8 0, .slice none 0 0, .int .i64 4, .int .u8 251, .int .u8 0, .slice none 0 0, .int .i64 4, .int .u8 253, .int .u8 40, .slice none 0 0] 26) := ⟨_, rfl⟩
  obtain ⟨g, hg⟩ : ∃ g, g = W1.heap.size := ⟨_, rfl⟩
  rw [← hW2] at hv2 hb2
  rw [← hg] at hv2
  have HV2 := Lib.hid hv2
  have HB2 := Lib.hid (HB1.out.trans (hb2.mono HB1.out.size))
  have HW2 := Lib.hid hW2.symm
  have HG := Lib.hid hg.symm
  clear hv2 hb2 hW2 hg
  go_upto_region 6 with fail
  rw [HW2.out, HG.out]
  go_wp2_with fail
  refine (HNEW.out W2).mono ?_
  rintro e W3 ⟨b, rfl, ht3, hb3, hlo3⟩
  have hlt2 : g < W2.heap.size := World.block_lt_of_cell? W2 ⟨g, 0, none⟩ (HV2.out 0 (by omega)).1
  have HQ3 : Hid (AgQ w g b nm (M0 ext) S0 false W3) := Lib.hid ⟨⟨ht3, HB2.out.trans (hb3.mono HB2.out.size), Nat.le_trans HB2.out.size hlo3⟩, HV2.out.below hb3, by omega⟩
  clear ht3 hb3 hlo3 hlt2
  go_upto_region 8 with fail
  go_loopw [38] (fun i wr => AgRel w g b nm ext n i wr) (fun i _ => n - (intOf i).toNat)
  case atStart => exact ⟨0, S0, Nat.zero_le _, rfl, inv0 ext, HQ3.out⟩
  case round =>
    obtain ⟨k, S, hk, rfl, hinv, hq⟩ := hrel
    have HQ := Lib.hid hq
    have HI := Lib.hid hinv
    clear hq hinv
    by_cases hkn : k < n
    · have hkl : k < L.length := by rw [← HN.out]; exact hkn
      obtain ⟨a', c', e', hc⟩ := HR.out.below HQ.out.tq.old
      injection e' with e1 e2 e3
      subst e1 e3
      obtain ⟨gr, off, rfl, hcell⟩ := hc (by intro e; rw [e] at hkl; simp at hkl)
      have d := hcell k hkl
      obtain ⟨x, hx⟩ : ∃ x, x = L[k]?.getD 0 := ⟨_, rfl⟩
      rw [← hx] at d
      have hkn' : (k : Int) < (n : Int) := by omega
      obtain ⟨q, hq⟩ : ∃ q : Nat, x % 1024 % 6 = (q : Int) := ⟨(x % 1024 % 6).toNat, by omega⟩
      have hq6 : q < 6 := by omega
      have hq6i : (q : Int) < 6 := by omega
      have htm : (bits .and .i64 x 1023).tmod 6 = (q : Int) := by
        obtain ⟨j, hand, _, hj⟩ := Open.mask_nat x 1023 10 1024 (by omega) (by decide) (by decide)
        have hand : bits .and .i64 x 1023 = (j : Int) := hand
        have hj : (j : Int) = x % 1024 := hj
        rw [hand, Int.tmod_eq_emod_of_nonneg (by omega), hj]
        exact hq
      obtain ⟨c0, c1, c2, c3⟩ := HQ.out.vb q hq6
      have HQ6 := Lib.hid hq6
      clear hc hcell hx e2 hkl hk
      go_wp2_with fail
      refine (take_one HQ.out HI.out HNM.out q HQ6.out).mono ?_
      rintro e W4 ⟨a4, m4, c4, rfl, hm4, hq4⟩
      have hm4' : (m4 : Int) ≤ 3 := by omega
      have HQ4 := Lib.hid hq4
      have HI4 := Lib.hid (HI.out.step q HQ6.out)
      clear hq4 hm4 c0 c1 c2 c3 htm hq6i hq6 hq d hkn
      go_wp2_with fail
      go_roundw
      case rel => exact ⟨k + 1, _, by omega, by go_num, HI4.out, HQ4.out⟩
      case measure => simp [intOf]; omega
    · obtain rfl : k = n := by omega
      go_wp2_with fail
      refine (basic_no HQ.out.tq.tk).mono ?_
      rintro e W4 ⟨rfl, ht4, hu4⟩
      have HQ4 := Lib.hid (HQ.out.turn hu4 ht4)
      clear ht4 hu4
      go_upto_region 15 with fail
      go_loopw [59] (fun i wr => AgRel2 w g b nm ext S i wr) (fun i _ => 6 - (intOf i).toNat)
      case atStart => exact ⟨0, by omega, rfl, HQ4.out⟩
      case round =>
        obtain ⟨q, hq6, rfl, hq⟩ := hrel
        have HQ5 := Lib.hid hq
        have HI5 := Lib.hid (SK_inv ext S HI.out q hq6)
        have HS5 := Lib.hid (show (gotS (M0 ext) (SK ext S q) (vc q) (vo q)).1 = SK ext S (q + 1) from rfl)
        clear hq
        by_cases hqn : q < 6
        · have hq6i : (q : Int) < 6 := by omega
          obtain ⟨c0, c1, c2, c3⟩ := HQ5.out.vb q hqn
          have HQ6 := Lib.hid hqn
          clear hq6 hqn
          go_wp2_with fail
          refine (take_one (HQ5.out.below (below_alloc wr _)) HI5.out HNM.out q HQ6.out).mono ?_
          rintro e W6 ⟨a4, m4, c4, rfl, hm4, hq7⟩
          rw [HS5.out] at hq7
          have HQ7 := Lib.hid hq7
          clear hq7 hm4 c0 c1 c2 c3
          go_wp2_with fail
          go_roundw
          case rel => exact ⟨q + 1, by have := HQ6.out; omega, by go_num, HQ7.out⟩
          case measure => have := HQ6.out; simp [intOf]; omega
        · obtain rfl : q = 6 := by omega
          obtain ⟨hb1, hb2, hb3⟩ := SK_basic ext S HI.out
          have HE1 := Lib.hid hb1
          have HE2 := Lib.hid hb2
          have HE3 := Lib.hid hb3
          clear hb1 hb2 hb3 hq6 hqn
          generalize SK ext S 6 = S6 at *
          go_wp2_with fail
          refine (basic_no HQ5.out.tq.tk).mono ?_
          rintro e W6 ⟨rfl, ht6, hu6⟩
          have HQ6 := Lib.hid (HQ5.out.turn hu6 ht6)
          clear ht6 hu6
          go_wp2_with fail
          refine (take_asks HQ6.out.tq HI5.out.le5 (by have := HNM.out; omega) (S6, true, Iac.tellL 24 (0 :: nums nm)) (by unfold takeR; rw [HE2.out]; rfl)).mono ?_
          rintro e W7 ⟨p7, rfl, hq7, hf7, hu7⟩
          have HQ7 := Lib.hid hq7
          obtain ⟨a7, c7, rfl⟩ := hf7.form
          rw [HTL.out]
          clear hq7 hf7 hu7
          rcases hcase with ⟨h16, hnz⟩ | ⟨h16, hnz⟩
          all_goals
            go_wp2_with fail
            refine (basic_yes HQ7.out.tk HE1.out HE2.out).mono ?_
            rintro e W8 ⟨rfl, ht8, hu8⟩
            have HQ8 := Lib.hid (HQ7.out.turn hu8 ht8)
            clear ht8 hu8
            go_wp2_with fail
            refine (show Calls Try.prog 45 #[.pointer (some ⟨b, 0, none⟩)] W8 fun e w' => e = .returned (.bool ext) ∧ W8 = w' from by have := extended_any HQ8.out.tk; rw [HE3.out] at this; exact this).mono ?_
            rintro e W' ⟨rfl, rfl⟩
            go_wp2_with (go_at_call 48; refine (name_any HQ8.out.tk).mono ?_; rintro e W' ⟨rfl, rfl⟩)
            go_ret
            exact ⟨rfl, HQ8.out.old⟩
end Go.Proofs.Ytkolhjglehnigaa.Talk
