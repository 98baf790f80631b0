/-
  The walk of RecordDrops.
-/
import Derived.Test.YtfijcdidcnfadaaRecE
import Derived.Test.YtfijcdidcnfadaaOpenH
import Derived.Test.YtfijcdidcnfadaaSame
namespace Go.Proofs.Ytfijcdidcnfadaa.Rec
open Go.RowKit Base Iac
set_option linter.unusedVariables false

theorem same_t (u v : Value) (A : List Int) (w : World) (hA : RowOf .u8 w u A) (hB : RowOf .u8 w v A) (hm : A.length ≤ maxLen) : Calls Try.prog 22 #[u, v] w fun e w' => e = .returned (.bool true) ∧ ∃ n, w' = w.drewN n := by
  have := same_any u v A A w hA hB hm
  simpa using this
/-- A call's maker at s, and all that was there. -/
structure DQ (w : World) (s : Nat) (B : List Int) (lg : Bool) (W : World) : Prop where
  mak : MakAt W s B lg
  old : Below w.heap.size w W
  lo : w.heap.size ≤ s
section
variable {w W W' : World} {s : Nat} {B B' : List Int} {lg lg' : Bool}
theorem DQ.below (h : DQ w s B lg W) (t : Below W.heap.size W W') : DQ w s B lg W' := ⟨h.mak.below t, h.old.trans (t.mono h.old.size), h.lo⟩
theorem DQ.turn (h : DQ w s B lg W) (t : Turn (At s) W W') (k : MakAt W' s B' lg') : DQ w s B' lg' W' := ⟨k, h.old.trans (t.at_below h.old.size h.lo), h.lo⟩
theorem DQ.mine (h : DQ w s B lg W) (t : Turn (Mine W s) W W') (k : MakAt W' s B' lg') : DQ w s B' lg' W' := ⟨k, h.old.trans (t.below h.old.size fun k hk => by rcases hk with rfl | hk; exact h.lo; exact Nat.le_trans h.old.size hk), h.lo⟩
theorem DQ.drewN (h : DQ w s B lg W) (n : Nat) : DQ w s B lg (W.drewN n) := ⟨h.mak.drewN n, below_drewN h.old n, h.lo⟩
end
set_option maxRecDepth 100000 in
set_option maxHeartbeats 4000000 in
theorem recordDrops_law {w : World} (n : Int) (hwf : (Lit.int .i64 n).wf = true) (v : Value) (L : List Int) (hL : CutRow w v L ∧ L.length ≤ maxLen ∧ ∀ n ∈ L, Open.Byte n) :
    Calls Try.prog 10 #[.int .i64 n, v] w fun e W' => e = .returned (.bool true) ∧ Below w.heap.size w W' := by
  have hzm := (zero_of_info info_mk).1
  obtain ⟨hc, hl, _⟩ := hL
  obtain ⟨j, hand, hj, hq0⟩ := Open.mask_nat n 16383 14 16384 (by omega) (by decide) (by decide)
  have hand : bits .and .i64 n 16383 = (j : Int) := hand
  obtain ⟨m, hm⟩ : ∃ m, m = j % 9001 := ⟨_, rfl⟩
  have hmj : (j : Int) % 9001 = (m : Int) := by omega
  have hm9 : m ≤ 9000 := by omega
  have HR := Lib.hid hc.1
  obtain ⟨_, av, cv, rfl, _, _⟩ := hc
  obtain ⟨l, hll⟩ : ∃ l, l = L.length := ⟨_, rfl⟩
  have HL := Lib.hid hll
  unfold maxLen at hl
  rw [← hll] at hl HR ⊢
  have HMJ := Lib.hid hmj
  clear hll hm hwf hq0 hj hmj
  by_cases hbig : 300 < l
  · have hbig' : (300 : Int) < l := by omega
    go_enter Try.func10, Try.ntmps10
    go_wp2_with fail
    refine (rec_alive w).mono ?_
    rintro e W1 ⟨rfl, b1⟩
    go_wp2_with fail
    go_ret
    exact ⟨rfl, b1⟩
  have hsm : (l : Int) ≤ 300 := by omega
  have HLL : Hid (L.length ≤ 300) := Lib.hid (by rw [← HL.out]; omega)
  obtain ⟨X, hX⟩ : ∃ X : List Int, X = List.replicate m 0 := ⟨_, rfl⟩
  have hXl : X.length = m := by rw [hX, List.length_replicate]
  have HX := Lib.hid hX.symm
  have HXL := Lib.hid hXl
  clear hX hXl hbig
  have hcases : m < 8192 ∨ m = 8192 ∨ 8192 < m := by omega
  go_enter Try.func10, Try.ntmps10
  go_wp2_with fail
  refine (rec_alive w).mono ?_
  rintro e W1 ⟨rfl, b1⟩
  have hm0 := mak_new W1
  have hb2 := below_alloc W1 (.cells zmk 65)
  obtain ⟨W2, hW2⟩ : ∃ W2, W2 = W1.alloc (.cells zmk 65) := ⟨_, rfl⟩
  obtain ⟨s, hs⟩ : ∃ s, s = W1.heap.size := ⟨_, rfl⟩
  rw [← hW2, ← hs] at hm0
  rw [← hW2, ← hs] at hb2
  have hdq : DQ w s [] false W2 := ⟨hm0, b1.trans (hb2.mono (by rw [hs]; exact b1.size)), by rw [hs]; exact b1.size⟩
  have HS := Lib.hid hs.symm
  have HW2 := Lib.hid hW2.symm
  have HD2 := Lib.hid hdq
  clear b1 hm0 hb2 hW2 hs hdq
  go_upto_region 7 with fail
  rw [HW2.out, HS.out, HMJ.out]
  go_wp2_with (at_make; refine make_bytes rfl _ _ rfl m m m rfl rfl (by rfl) (by rfl) (by omega) ?_; intro W4 hown hold; have HO4 := Lib.hid hown; have HB4 := Lib.hid hold; clear hown hold)
  have hdq := HD2.out.below HB4.out
  have ho4 := HO4.out.row
  rw [HX.out] at ho4
  refine (take_data 0 0 _ X hdq.mak ho4 (by rw [HXL.out]; omega)).mono ?_
  rintro e W5 ⟨rfl, hm2, ht2⟩
  obtain ⟨B8, hB8⟩ : ∃ B8, B8 = [] ++ X.take (8192 - ([] : List Int).length) := ⟨_, rfl⟩
  have hB8l : B8.length = min 8192 m := by rw [hB8, List.nil_append, List.length_take, HXL.out]; rfl
  rw [← hB8, HXL.out] at hm2
  obtain ⟨lg, hlg⟩ : ∃ lg, lg = (false || decide (8192 - ([] : List Int).length < m)) := ⟨_, rfl⟩
  rw [← hlg] at hm2
  have hlg' : lg = decide (8192 < m) := by rw [hlg]; simp
  have HD5 := Lib.hid (hdq.mine ht2 hm2)
  have HLG := Lib.hid hlg'
  have HBL := Lib.hid hB8l
  clear hdq hm2 ht2 ho4 hB8 hB8l hlg hlg'
  have HLEN : ∀ q, min 8192 m = q → Hid (Calls Try.prog 36 #[.pointer (some ⟨s, 0, none⟩)] W5 fun e w' => e = .returned (.int .i64 q) ∧ W5 = w') := fun q hq => Lib.hid (by
    have := len_any HD5.out.mak
    rw [HBL.out, hq] at this
    exact this)
  have HDROP : ∀ q, min 8192 m = q → Hid (Calls Try.prog 33 #[.pointer (some ⟨s, 0, none⟩)] W5 fun e w' => e = .returned (.int .i64 q) ∧ MakAt w' s [] false ∧ Turn (At s) W5 w') := fun q hq => Lib.hid (by
    have := drop_any HD5.out.mak
    rw [HBL.out, hq] at this
    exact this)
  have hqe : ∃ q, min 8192 m = q := ⟨_, rfl⟩
  obtain ⟨q, hq⟩ := hqe
  have HL5 := HLEN q hq
  have HDR5 := HDROP q hq
  clear HLEN HDROP
  rcases hcases with hc | hc | hc
  · obtain rfl : q = m := by omega
    have hlt : (q : Int) < 8192 := by omega
    have HLGV : Hid (lg = false) := Lib.hid (by rw [HLG.out]; simpa using (by omega : q ≤ 8192))
    have HLO5 : Hid (Calls Try.prog 37 #[.pointer (some ⟨s, 0, none⟩)] W5 fun e w' => e = .returned (.bool false) ∧ W5 = w') := Lib.hid (by
      have := long_any HD5.out.mak
      rw [HLGV.out] at this
      exact this)
    clear hq hc
    go_wp2_with fail
    refine HL5.out.mono ?_
    rintro e W' ⟨rfl, rfl⟩
    go_wp2_with fail
    refine HLO5.out.mono ?_
    rintro e W' ⟨rfl, rfl⟩
    go_wp2_with fail
    refine HDR5.out.mono ?_
    rintro e W6 ⟨rfl, hm6, ht6⟩
    have HD6 := Lib.hid (HD5.out.turn ht6 hm6)
    clear hm6 ht6
    go_wp2_with fail
    refine (show Calls Try.prog 36 #[.pointer (some ⟨s, 0, none⟩)] W6 fun e w' => e = .returned (.int .i64 0) ∧ W6 = w' from len_any HD6.out.mak).mono ?_
    rintro e W' ⟨rfl, rfl⟩
    go_wp2_with fail
    refine (long_any HD6.out.mak).mono ?_
    rintro e W' ⟨rfl, rfl⟩
    go_wp2_with fail
    refine (take_data 0 0 _ L HD6.out.mak (HR.out.below HD6.out.old) (by have := HLL.out; omega)).mono ?_
    rintro e W7 ⟨rfl, hm7, ht7⟩
    have e1 : [] ++ L.take (8192 - ([] : List Int).length) = L := by rw [List.nil_append, List.take_of_length_le (by have := HLL.out; simp; omega)]
    have e2 : (false || decide (8192 - ([] : List Int).length < L.length)) = false := by have := HLL.out; simp; omega
    rw [e1, e2] at hm7
    have HD7 := Lib.hid (HD6.out.mine ht7 hm7)
    clear hm7 ht7 e1 e2
    go_wp2_with fail
    refine (take_end 0 0 _ HD7.out.mak).mono ?_
    rintro e W8 ⟨hp, hm8, ht8⟩
    rw [if_neg (by simp)] at hp
    obtain ⟨p, rfl, hp⟩ := hp
    have HD8 := Lib.hid (HD7.out.mine ht8 hm8)
    have HP8 := Lib.hid hp.row
    clear hm8 ht8 hp
    go_wp2_with fail
    refine (same_t _ _ L W8 HP8.out (HR.out.below HD8.out.old) (by have := HLL.out; unfold maxLen; omega)).mono ?_
    rintro e W9 ⟨rfl, nn, hW9⟩
    have HD9 : Hid (DQ w s [] false W9) := Lib.hid (by rw [hW9]; exact HD8.out.drewN nn)
    clear hW9
    go_wp2_with fail
    refine (show Calls Try.prog 36 #[.pointer (some ⟨s, 0, none⟩)] W9 fun e w' => e = .returned (.int .i64 0) ∧ W9 = w' from len_any HD9.out.mak).mono ?_
    rintro e W' ⟨rfl, rfl⟩
    go_wp2_with fail
    go_ret
    exact ⟨rfl, HD9.out.old⟩
  · obtain rfl : q = m := by omega
    subst hc
    have HLGV : Hid (lg = false) := Lib.hid (by rw [HLG.out]; rfl)
    have HLO5 : Hid (Calls Try.prog 37 #[.pointer (some ⟨s, 0, none⟩)] W5 fun e w' => e = .returned (.bool false) ∧ W5 = w') := Lib.hid (by
      have := long_any HD5.out.mak
      rw [HLGV.out] at this
      exact this)
    clear hq 
    go_wp2_with fail
    refine HL5.out.mono ?_
    rintro e W' ⟨rfl, rfl⟩
    go_wp2_with fail
    refine HLO5.out.mono ?_
    rintro e W' ⟨rfl, rfl⟩
    go_wp2_with fail
    refine HDR5.out.mono ?_
    rintro e W6 ⟨rfl, hm6, ht6⟩
    have HD6 := Lib.hid (HD5.out.turn ht6 hm6)
    clear hm6 ht6
    go_wp2_with fail
    refine (show Calls Try.prog 36 #[.pointer (some ⟨s, 0, none⟩)] W6 fun e w' => e = .returned (.int .i64 0) ∧ W6 = w' from len_any HD6.out.mak).mono ?_
    rintro e W' ⟨rfl, rfl⟩
    go_wp2_with fail
    refine (long_any HD6.out.mak).mono ?_
    rintro e W' ⟨rfl, rfl⟩
    go_wp2_with fail
    refine (take_data 0 0 _ L HD6.out.mak (HR.out.below HD6.out.old) (by have := HLL.out; omega)).mono ?_
    rintro e W7 ⟨rfl, hm7, ht7⟩
    have e1 : [] ++ L.take (8192 - ([] : List Int).length) = L := by rw [List.nil_append, List.take_of_length_le (by have := HLL.out; simp; omega)]
    have e2 : (false || decide (8192 - ([] : List Int).length < L.length)) = false := by have := HLL.out; simp; omega
    rw [e1, e2] at hm7
    have HD7 := Lib.hid (HD6.out.mine ht7 hm7)
    clear hm7 ht7 e1 e2
    go_wp2_with fail
    refine (take_end 0 0 _ HD7.out.mak).mono ?_
    rintro e W8 ⟨hp, hm8, ht8⟩
    rw [if_neg (by simp)] at hp
    obtain ⟨p, rfl, hp⟩ := hp
    have HD8 := Lib.hid (HD7.out.mine ht8 hm8)
    have HP8 := Lib.hid hp.row
    clear hm8 ht8 hp
    go_wp2_with fail
    refine (same_t _ _ L W8 HP8.out (HR.out.below HD8.out.old) (by have := HLL.out; unfold maxLen; omega)).mono ?_
    rintro e W9 ⟨rfl, nn, hW9⟩
    have HD9 : Hid (DQ w s [] false W9) := Lib.hid (by rw [hW9]; exact HD8.out.drewN nn)
    clear hW9
    go_wp2_with fail
    refine (show Calls Try.prog 36 #[.pointer (some ⟨s, 0, none⟩)] W9 fun e w' => e = .returned (.int .i64 0) ∧ W9 = w' from len_any HD9.out.mak).mono ?_
    rintro e W' ⟨rfl, rfl⟩
    go_wp2_with fail
    go_ret
    exact ⟨rfl, HD9.out.old⟩
  · obtain rfl : q = 8192 := by omega
    have hlt : (8192 : Int) < (m : Int) := by omega
    have HLGV : Hid (lg = true) := Lib.hid (by rw [HLG.out]; simpa using hc)
    have HLO5 : Hid (Calls Try.prog 37 #[.pointer (some ⟨s, 0, none⟩)] W5 fun e w' => e = .returned (.bool true) ∧ W5 = w') := Lib.hid (by
      have := long_any HD5.out.mak
      rw [HLGV.out] at this
      exact this)
    clear hq hc
    go_wp2_with fail
    refine HL5.out.mono ?_
    rintro e W' ⟨rfl, rfl⟩
    go_wp2_with fail
    refine HLO5.out.mono ?_
    rintro e W' ⟨rfl, rfl⟩
    go_wp2_with fail
    refine HDR5.out.mono ?_
    rintro e W6 ⟨rfl, hm6, ht6⟩
    have HD6 := Lib.hid (HD5.out.turn ht6 hm6)
    clear hm6 ht6
    go_wp2_with fail
    refine (show Calls Try.prog 36 #[.pointer (some ⟨s, 0, none⟩)] W6 fun e w' => e = .returned (.int .i64 0) ∧ W6 = w' from len_any HD6.out.mak).mono ?_
    rintro e W' ⟨rfl, rfl⟩
    go_wp2_with fail
    refine (long_any HD6.out.mak).mono ?_
    rintro e W' ⟨rfl, rfl⟩
    go_wp2_with fail
    refine (take_data 0 0 _ L HD6.out.mak (HR.out.below HD6.out.old) (by have := HLL.out; omega)).mono ?_
    rintro e W7 ⟨rfl, hm7, ht7⟩
    have e1 : [] ++ L.take (8192 - ([] : List Int).length) = L := by rw [List.nil_append, List.take_of_length_le (by have := HLL.out; simp; omega)]
    have e2 : (false || decide (8192 - ([] : List Int).length < L.length)) = false := by have := HLL.out; simp; omega
    rw [e1, e2] at hm7
    have HD7 := Lib.hid (HD6.out.mine ht7 hm7)
    clear hm7 ht7 e1 e2
    go_wp2_with fail
    refine (take_end 0 0 _ HD7.out.mak).mono ?_
    rintro e W8 ⟨hp, hm8, ht8⟩
    rw [if_neg (by simp)] at hp
    obtain ⟨p, rfl, hp⟩ := hp
    have HD8 := Lib.hid (HD7.out.mine ht8 hm8)
    have HP8 := Lib.hid hp.row
    clear hm8 ht8 hp
    go_wp2_with fail
    refine (same_t _ _ L W8 HP8.out (HR.out.below HD8.out.old) (by have := HLL.out; unfold maxLen; omega)).mono ?_
    rintro e W9 ⟨rfl, nn, hW9⟩
    have HD9 : Hid (DQ w s [] false W9) := Lib.hid (by rw [hW9]; exact HD8.out.drewN nn)
    clear hW9
    go_wp2_with fail
    refine (show Calls Try.prog 36 #[.pointer (some ⟨s, 0, none⟩)] W9 fun e w' => e = .returned (.int .i64 0) ∧ W9 = w' from len_any HD9.out.mak).mono ?_
    rintro e W' ⟨rfl, rfl⟩
    go_wp2_with fail
    go_ret
    exact ⟨rfl, HD9.out.old⟩
end Go.Proofs.Ytfijcdidcnfadaa.Rec
