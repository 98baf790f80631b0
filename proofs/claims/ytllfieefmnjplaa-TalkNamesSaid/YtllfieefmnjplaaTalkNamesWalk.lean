/-
  The walk of TalkNames.
-/
import Derived.Test.YtllfieefmnjplaaTalkF
import Derived.Test.YtllfieefmnjplaaEscPlain
import Derived.Test.YtllfieefmnjplaaDecF
import Derived.Test.YtllfieefmnjplaaIacAliveA
import Derived.Test.YtllfieefmnjplaaOpenH
namespace Go.Proofs.Ytllfieefmnjplaa.Talk
open Go.RowKit Base Opt Iac
set_option linter.unusedVariables false

theorem zero_str (nm : ByteArray) : strOfNums (0 :: nums nm) = ⟨#[0]⟩ ++ nm := by
  apply ByteArray.ext
  rw [ByteArray.data_append]
  conv => rhs; rw [← str_nums nm]
  unfold strOfNums
  apply Array.ext'
  simp
/-- A Take of what asks for the name, and where its bytes lie. -/
theorem take_tells {w W : World} {b : Nat} {nm : ByteArray} {M : Nat → Bool} {nd : Bool} (h : TQ w b nm M S1 nd W) (hnm : nm.size ≤ 16) :
    Calls Try.prog 54 #[.pointer (some ⟨b, 0, none⟩), .agg #[.int .i64 5, .int .u8 0, .int .u8 24, .slice (some ⟨W.heap.size, 0, none⟩) 1 1]] (W.alloc (.cells #[.int .u8 1] 5)) fun e W' => ∃ p, e = .returned p ∧ TQ w b nm M S1 true W' ∧ RowIn (fun k => W.heap.size ≤ k) .u8 W' p (tellL 24 (0 :: nums nm)) ∧ Turn (At b) W W' := by
  have hb := below_alloc W (.cells #[.int .u8 1] 5)
  have hq := h.below hb
  have := take_any 5 0 24 (by omega) (.slice (some ⟨W.heap.size, 0, none⟩) 1 1) [1] (row_one8 W 1 5) hq.tk le5_S1 (by omega)
  rw [r3] at this
  refine this.mono ?_
  rintro e W' ⟨p, he, hp, ht, hu⟩
  exact ⟨p, he, hq.turn hu ht, hp.mono fun k hk => Nat.le_trans hb.size hk, (Turn.of_below hb).trans hu⟩
def NamesRel (w : World) (b : Nat) (nm : ByteArray) (m : Nat) (i : Value) (wr : World) : Prop := ∃ k nd, k ≤ m ∧ i = .int .i64 (k : Nat) ∧ (0 < k → nd = true) ∧ TQ w b nm (M0 false) S1 nd wr
set_option maxRecDepth 100000 in
set_option maxHeartbeats 8000000 in
theorem talkNames_law {w : World} (s : ByteArray) (hsm : s.size ≤ maxLen) (x : Int) (hx : (Lit.int .i64 x).wf = true) :
    Calls Try.prog 9 #[.string s, .int .i64 x] w fun e W' => e = .returned (.bool true) ∧ Below w.heap.size w W' := by
  have hze := (zero_of_info info_ev0).1
  have hzd := (zero_of_info info_dec).1
  obtain ⟨m, hand, hm, _⟩ := Open.mask_nat x 7 3 8 (by omega) (by decide) (by decide)
  have hand : bits .and .i64 x 7 = (m : Int) := hand
  have HNEW1 : Hid (∀ w, Calls Try.prog 52 #[.string s, .bool false] w (NewK (cleaned s) false w)) := Lib.hid fun w => talk_new s false w hsm
  have HNEW2 : Hid (∀ w, Calls Try.prog 52 #[.string (cleaned s), .bool true] w (NewK (cleaned s) true w)) := Lib.hid fun w => by
    have := talk_new (cleaned s) true w (by rw [cleaned_size]; unfold maxLen; omega)
    rw [cleaned_twice] at this
    exact this
  have hcs := cleaned_size s
  generalize cleaned s = nm at *
  have HNM : Hid (nm.size ≤ 16) := Lib.hid (by omega)
  have HAND : Hid (wrap64 (1 + bits .and .i64 x 7) = ((m + 1 : Nat) : Int)) := Lib.hid (by rw [hand]; unfold wrap64; omega)
  have h0 : (0 : Int) ≤ s.size := Int.natCast_nonneg _
  clear hx hand hsm
  by_cases hbig : 300 < s.size
  · have hbig' : (300 : Int) < s.size := by omega
    go_enter Try.func9, Try.ntmps9
    go_wp2_with fail
    refine (talk_alive w).mono ?_
    rintro e W1 ⟨rfl, b1⟩
    go_wp2_with fail
    go_ret
    exact ⟨rfl, b1⟩
  have hsi : (s.size : Int) ≤ 300 := by omega
  have hcase : (s.size : Int) ≤ 16 ∧ (nm.size : Int) = (s.size : Int) ∨ (16 : Int) < s.size ∧ (nm.size : Int) = 16 := by omega
  clear hbig hcs
  rcases hcase with ⟨h16, hnz⟩ | ⟨h16, hnz⟩
  all_goals
    go_enter Try.func9, Try.ntmps9
    go_wp2_with fail
    refine (talk_alive w).mono ?_
    rintro e W1 ⟨rfl, hb1⟩
    have HB1 := Lib.hid hb1
    clear hb1
    go_wp2_with fail
    refine (HNEW1.out W1).mono ?_
    rintro e W2 ⟨b, rfl, ht2, hb2, hlo2⟩
    have HQ2 : Hid (TQ w b nm (M0 false) S0 false W2) := Lib.hid ⟨ht2, HB1.out.trans (hb2.mono HB1.out.size), Nat.le_trans HB1.out.size hlo2⟩
    clear ht2 hb2 hlo2
    go_wp2_with fail
    refine (name_any HQ2.out.tk).mono ?_
    rintro e W' ⟨rfl, rfl⟩
    go_wp2_with fail
    refine (HNEW2.out W2).mono ?_
    rintro e W3 ⟨b3, rfl, ht3, hb3, hlo3⟩
    have HT3 := Lib.hid ht3
    have HQ3 := Lib.hid (HQ2.out.below hb3)
    clear ht3 hb3 hlo3
    go_wp2_with fail
    refine (name_any HT3.out).mono ?_
    rintro e W' ⟨rfl, rfl⟩
    go_wp2_with fail
    refine (take_verb HQ3.out le5_S0 (by have := HNM.out; omega) 253 24 (by omega) _ (r2 _ false)).mono ?_
    rintro e W4 ⟨p4, rfl, hq4, _, _⟩
    have HQ4 : Hid (TQ w b nm (M0 false) S1 false W4) := Lib.hid hq4
    clear hq4
    go_upto_region 11 with fail
    rw [HAND.out]
    obtain ⟨q, hq⟩ : ∃ q, q = m + 1 := ⟨_, rfl⟩
    have HQM := Lib.hid hq
    rw [← hq]
    have hq8 : (q : Int) ≤ 8 := by omega
    clear hq
    go_loopw [37] (fun i wr => NamesRel w b nm q i wr) (fun i _ => q - (intOf i).toNat)
    case atStart => exact ⟨0, false, Nat.zero_le _, rfl, fun h => absurd h (by omega), HQ4.out⟩
    case round =>
      obtain ⟨k, nd, hk, rfl, hnd, hq⟩ := hrel
      have HQ := Lib.hid hq
      have HND := Lib.hid hnd
      clear hq hnd
      by_cases hkq : k < q
      · have hkq' : (k : Int) < (q : Int) := by omega
        have hd0 := dec_new wr
        have hb0 := below_alloc wr (.cells zdec 85)
        obtain ⟨W5, hW5⟩ : ∃ W5, W5 = wr.alloc (.cells zdec 85) := ⟨_, rfl⟩
        obtain ⟨d, hd⟩ : ∃ d, d = wr.heap.size := ⟨_, rfl⟩
        rw [← hW5] at hd0 hb0
        rw [← hd] at hd0
        have HQ5 := Lib.hid (HQ.out.below hb0)
        have HD5 := Lib.hid hd0
        have HW5 := Lib.hid hW5.symm
        have HDD := Lib.hid hd.symm
        have hbd : b ≠ d := by have := HQ.out.tk.lt; omega
        have HLD : Hid (w.heap.size ≤ d) := Lib.hid (by rw [hd]; exact HQ.out.old.size)
        clear hd0 hb0 hW5 hd
        go_upto_region 13 with fail
        rw [HW5.out, HDD.out]
        go_wp2_with fail
        refine (take_tells HQ5.out HNM.out).mono ?_
        rintro e W6 ⟨p6, rfl, hq6, hp6, hu6⟩
        have HQ6 := Lib.hid hq6
        have hd6 : DecAt W6 d dec0 := by
          obtain ⟨A, h1, h2⟩ := HD5.out
          exact ⟨A, (hu6.block d (lt_of_block h1) (fun e => hbd e.symm)).trans h1, h2⟩
        have HD6 := Lib.hid hd6
        have HP6 := Lib.hid (hp6.mono (S' := fun k => k ≠ d) fun k hk => by obtain ⟨A, h1, _⟩ := HD5.out; have := lt_of_block h1; omega)
        clear hq6 hp6 hu6 hd6
        go_wp2_with fail
        refine (feed_any d dec0 p6 (tellL 24 (0 :: nums nm)) W6 HD6.out (by simp [dec0]) HP6.out (by
          have h1 := escL_le [24]
          have h2 := escL_le (0 :: nums nm)
          have h3 := nums_length nm
          have h4 := HNM.out
          unfold tellL
          simp only [List.length_append, List.length_cons, List.length_nil] at h1 h2 ⊢
          omega)).mono ?_
        rw [feed_tell]
        rintro e W7 ⟨v7, P7, rfl, _, hE7, hP7, hT7⟩
        have hq7 : TQ w b nm (M0 false) S1 true W7 := ⟨HQ6.out.tk.keep hT7 (fun h => h.elim hbd fun h => by have := HQ6.out.tk.lt; omega), HQ6.out.old.trans (hT7.below HQ6.out.old.size fun k hk => hk.elim (fun e => by rw [e]; exact HLD.out) fun h => Nat.le_trans HQ6.out.old.size h), HQ6.out.lo⟩
        have hsub : subE 24 (0 :: nums nm) = ⟨5, 0, 24, 0 :: nums nm⟩ := by
          have h3 := nums_length nm
          have h4 := HNM.out
          unfold subE
          rw [if_neg (by rw [List.length_cons]; omega), List.take_of_length_le (by rw [List.length_cons]; omega)]
        rw [hsub] at hP7
        obtain ⟨u, rfl⟩ : ∃ u, P7 = [(⟨5, 0, 24, 0 :: nums nm⟩, u)] := by
          match P7, hP7 with
          | [(y, u)], h => simp at h; subst h; exact ⟨u, rfl⟩
        obtain ⟨g, cap, rfl, _, hglt, c0, c1, c2, c3⟩ := hE7.get (i := 0) rfl
        have hstr : (convert 44 9 u).run Try.prog W7 = .ok (.string (⟨#[0]⟩ ++ nm)) W7 := by
          rw [← zero_str]
          exact row_str ((hE7.own (⟨5, 0, 24, 0 :: nums nm⟩, u) (by simp)).row)
        have c0 : W7.cell? ⟨g, 0, none⟩ = some (.int .i64 5) := by simpa using c0
        have c2 : W7.cell? ⟨g, 2, none⟩ = some (.int .u8 24) := by simpa using c2
        have c3 : W7.cell? ⟨g, 3, none⟩ = some u := by simpa using c3.1
        have HQ7 := Lib.hid hq7
        clear hE7 hP7 hT7 hq7 hsub c1
        go_wp2_with fail
        go_roundw
        case rel => exact ⟨k + 1, true, by omega, by go_num, fun _ => rfl, HQ7.out⟩
        case measure => simp [intOf]; omega
      · obtain rfl : k = q := by omega
        have hn1 : nd = true := HND.out (by have := HQM.out; omega)
        subst hn1
        go_wp2_with fail
        refine (show Calls Try.prog 56 #[.pointer (some ⟨b, 0, none⟩)] wr fun e w' => e = .returned (.bool true) ∧ TalkAt w' b nm (M0 false) S1 true ∧ Turn (At b) wr w' from named_any (S := S1) HQ.out.tk).mono ?_
        rintro e W8 ⟨rfl, ht8, hu8⟩
        have HQ8 := Lib.hid (HQ.out.turn hu8 ht8)
        clear ht8 hu8
        go_wp2_with fail
        refine (show Calls Try.prog 57 #[.pointer (some ⟨b, 0, none⟩)] W8 fun e w' => e = .returned (.bool false) ∧ W8 = w' from extended_any (S := S1) HQ8.out.tk).mono ?_
        rintro e W' ⟨rfl, rfl⟩
        go_wp2_with fail
        go_ret
        exact ⟨rfl, HQ8.out.old⟩
end Go.Proofs.Ytllfieefmnjplaa.Talk
