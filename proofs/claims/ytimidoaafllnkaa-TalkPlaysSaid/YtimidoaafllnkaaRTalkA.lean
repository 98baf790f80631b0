/-
  The reference's talk: its Name and On.
-/
import Derived.Test.YtimidoaafllnkaaTalkC
import Derived.Test.YtimidoaafllnkaaOptRefD
import Derived.Laws.Concat
import Derived.Laws.Slices
namespace Go.Proofs.Ytimidoaafllnkaa.Talk
open Go.RowKit Base Opt
set_option linter.unusedVariables false
set_option linter.unusedSimpArgs false

theorem str_append (A B : List Int) : strOfNums A ++ strOfNums B = strOfNums (A ++ B) := by
  apply ByteArray.ext
  simp [strOfNums]
theorem str_cut (s : ByteArray) (k : Nat) (x : Int) (h : (nums s)[k]? = some x) : s.extract k (k + 1) = strOfNums [x] := by
  have hk : k < s.data.size := by
    have := (List.getElem?_eq_some_iff.1 h).1
    rw [nums_length] at this
    exact this
  unfold nums at h
  rw [List.getElem?_map, Array.getElem?_toList, Array.getElem?_eq_getElem hk] at h
  simp at h
  apply ByteArray.ext
  apply Array.ext'
  simp [strOfNums, ByteArray.data_extract, ← h]
  rw [List.take_one, List.head?_drop]
  simp [hk]
theorem index_nums (s : ByteArray) (k : Nat) (x : Int) (h : (nums s)[k]? = some x) (w : World) : (Instr.index 9 (.string s) (.int .i64 (k : Int))).run Try.prog w = .ok (.int .u8 x) w := by
  have hk : k < s.data.size := by
    have := (List.getElem?_eq_some_iff.1 h).1
    rw [nums_length] at this
    exact this
  have hk2 : k < s.size := hk
  rw [run_index_string w _ _ _ _ Try.underlying9, dif_pos (by omega)]
  unfold nums at h
  rw [List.getElem?_map, Array.getElem?_toList, Array.getElem?_eq_getElem hk] at h
  simp at h
  rw [← h]
  rfl
set_option maxRecDepth 100000 in
set_option maxHeartbeats 4000000 in
theorem rname_any (s : ByteArray) (w : World) (hs : s.size ≤ 1000) : Calls Try.prog 70 #[.string s] w fun e w' => e = .returned (.string (cleaned s)) ∧ w = w' := by
  obtain ⟨n, hn⟩ : ∃ n, n = s.size := ⟨_, rfl⟩
  have HN := Lib.hid hn
  have hlen := nums_length s
  have hn1000 : n ≤ 1000 := by omega
  have HLEN := Lib.hid hlen
  clear hn hs hlen
  go_enter Try.func70, Try.ntmps70
  go_upto_region 3 with fail
  go_loopw [3, 4] (fun v i wr => ∃ k : Nat, k ≤ n ∧ k ≤ 16 ∧ i = .int .i64 k ∧ v = .string (strOfNums ((cleanL (nums s)).take k)) ∧ wr = w) (fun _ i _ => n - (intOf i).toNat)
  case atStart => exact ⟨0, by omega, by omega, rfl, by simp [strOfNums], rfl⟩
  case round =>
    obtain ⟨k, hk, hk16, rfl, hv, rfl⟩ := hrel
    obtain ⟨O, hO⟩ : ∃ O, O = strOfNums ((cleanL (nums s)).take k) := ⟨_, rfl⟩
    rw [← hO] at hv
    subst hv
    have HO := Lib.hid hO
    have hosz : O.size ≤ 16 := by rw [hO, strOfNums_size, List.length_take]; omega
    clear hO
    by_cases hend : n ≤ k ∨ k = 16
    · have hfin : cleaned s = O := by
        rw [HO.out]
        unfold cleaned
        rw [List.take_of_length_le]
        rw [cleanL_length, HLEN.out, ← HN.out]
        omega
      have HF := Lib.hid hfin
      by_cases hkn : n ≤ k
      · have h1 : ¬ (k : Int) < (s.size : Int) := by have := HN.out; omega
        clear hend hfin
        go_wp2_with fail
        go_ret
        exact ⟨by rw [HF.out]; rfl, rfl⟩
      · have h1 : (k : Int) < (s.size : Int) := by have := HN.out; omega
        have h2 : ¬ (k : Int) < 16 := by omega
        clear hend hfin
        go_wp2_with fail
        go_ret
        exact ⟨by rw [HF.out]; rfl, rfl⟩
    · have h1 : (k : Int) < (s.size : Int) := by have := HN.out; omega
      have h2 : (k : Int) < 16 := by omega
      have hkl : k < (nums s).length := by rw [HLEN.out]; have := HN.out; omega
      obtain ⟨x, hx⟩ : ∃ x, (nums s)[k]? = some x := ⟨_, List.getElem?_eq_getElem hkl⟩
      have hix := index_nums s k x hx
      have hcut := str_cut s k x hx
      have hsz : strOfNums [x] = s.extract k (k + 1) := hcut.symm
      have htk : strOfNums ((cleanL (nums s)).take (k + 1)) = O ++ strOfNums [cl x] := by
        rw [HO.out, str_append, List.take_add_one]
        congr 2
        unfold cleanL
        rw [List.getElem?_map, List.getElem?_take_of_lt (by omega), hx]
        rfl
      have HTK := Lib.hid htk
      have hw : IntKind.i64.wrap ((k : Int) + 1) = (k : Int) + 1 := IntWalk.i64_in _ (by omega)
      have HWR := Lib.hid hw
      have hsl : ∀ w : World, (Instr.slice 9 (.string s) (some (.int .i64 (k : Int))) (some (.int .i64 ((k : Int) + 1))) none).run Try.prog w = .ok (.string (strOfNums [x])) w := fun w => by
        rw [run_slice_string w 9 s .i64 .i64 k ((k : Int) + 1) Try.underlying9 (by omega) (by omega) (by have := HN.out; omega)]
        rw [hsz]
        rfl
      obtain ⟨X1, hX1⟩ : ∃ X1, X1 = strOfNums [x] := ⟨_, rfl⟩
      have hXs : X1.size = 1 := by rw [hX1, strOfNums_size]; rfl
      rw [← hX1] at hsl
      have hadd : ∀ w : World, (Op.stringOp .add O X1).run Try.prog w = .ok (.string (O ++ X1)) w := fun w => run_string_add_sum w _ _ (by omega)
      have hadd2 : ∀ w : World, (Op.stringOp .add O ⟨#[63]⟩).run Try.prog w = .ok (.string (O ++ ⟨#[63]⟩)) w := fun w => run_string_add_sum w _ _ (by have : (ByteArray.mk #[63]).size = 1 := rfl; omega)
      have HX1 := Lib.hid hX1
      clear hX1 hcut hsz htk hx hend
      by_cases hlo : 33 ≤ x
      · by_cases hhi : x ≤ 126
        · have hcl : strOfNums [cl x] = X1 := by rw [HX1.out]; unfold cl; rw [if_neg (by omega)]
          have HCL := Lib.hid hcl
          clear hcl
          go_wp2_with fail
          go_roundw
          case rel => exact ⟨k + 1, by have := HN.out; omega, by omega, by simp, by rw [HTK.out, HCL.out], by trivial⟩
          case measure => have := HN.out; simp [intOf]; omega
        · have hcl : strOfNums [cl x] = ⟨#[63]⟩ := by unfold cl; rw [if_pos (by omega)]; rfl
          have HCL := Lib.hid hcl
          clear hcl
          go_wp2_with fail
          go_roundw
          case rel => exact ⟨k + 1, by have := HN.out; omega, by omega, by simp, by rw [HTK.out, HCL.out], by trivial⟩
          case measure => have := HN.out; simp [intOf]; omega
      · have hcl : strOfNums [cl x] = ⟨#[63]⟩ := by unfold cl; rw [if_pos (by omega)]; rfl
        have HCL := Lib.hid hcl
        clear hcl
        go_wp2_with fail
        go_roundw
        case rel => exact ⟨k + 1, by have := HN.out; omega, by omega, by simp, by rw [HTK.out, HCL.out], by trivial⟩
        case measure => have := HN.out; simp [intOf]; omega
set_option maxRecDepth 100000 in
set_option maxHeartbeats 4000000 in
theorem ron_any (base : Nat) (nm : ByteArray) (x u v : Value) (nd : Bool) (L : List One) (ours : Bool) (o : Nat) (w : World) (h : OneRow base w x L) (hl : L.length ≤ 1000) :
    Calls Try.prog 35 #[.agg #[.string nm, x, u, v, .bool nd], .bool ours, .int .u8 o] w fun e w' => e = .returned (.bool (decide (stL L ours o = 1))) ∧ Below w.heap.size w w' := by
  have hb := below_alloc w (.cells #[.string nm, x, u, v, .bool nd] 48)
  have hn := heap_alloc_new w (.cells #[.string nm, x, u, v, .bool nd] 48)
  have HS := Lib.hid (rstate_any base x u v L ours o (w.alloc (.cells #[.string nm, x, u, v, .bool nd] 48)) (h.below hb) hl)
  obtain ⟨W, hW⟩ : ∃ W, W = w.alloc (.cells #[.string nm, x, u, v, .bool nd] 48) := ⟨_, rfl⟩
  obtain ⟨st, hst⟩ : ∃ st, st = stL L ours o := ⟨_, rfl⟩
  rw [← hW] at hb hn HS
  rw [← hst] at HS ⊢
  obtain ⟨tb, htb⟩ : ∃ tb, tb = w.heap.size := ⟨_, rfl⟩
  rw [← htb] at hn
  have HW := Lib.hid hW.symm
  have HB := Lib.hid hb
  have HTB := Lib.hid htb.symm
  have c1 : W.cell? ⟨tb, 1, none⟩ = some x := by simp [World.cell?, hn]
  have c2 : W.cell? ⟨tb, 2, none⟩ = some u := by simp [World.cell?, hn]
  have c3 : W.cell? ⟨tb, 3, none⟩ = some v := by simp [World.cell?, hn]
  have HST := Lib.hid hst
  clear hW hb hn htb h hst
  by_cases h1 : st = 1
  · have hc : ((st : Int) == 1) = true := by simp; omega
    have hd : decide (st = 1) = true := decide_eq_true h1
    have HD := Lib.hid hd
    clear h1 hd
    go_enter Try.func35, Try.ntmps35
    go_upto_region 1 with fail
    rw [HW.out, HTB.out]
    go_wp2_with fail
    refine HS.out.mono ?_
    rintro e w' ⟨rfl, b⟩
    have HB2 := Lib.hid (HB.out.trans (b.mono HB.out.size))
    clear b
    go_wp2_with fail
    go_ret
    exact ⟨by rw [HD.out]; first | rfl | exact ret_bool (by simp [hc]), HB2.out⟩
  · have hc : ((st : Int) == 1) = false := by simp; omega
    have hd : decide (st = 1) = false := decide_eq_false h1
    have HD := Lib.hid hd
    clear h1 hd
    go_enter Try.func35, Try.ntmps35
    go_upto_region 1 with fail
    rw [HW.out, HTB.out]
    go_wp2_with fail
    refine HS.out.mono ?_
    rintro e w' ⟨rfl, b⟩
    have HB2 := Lib.hid (HB.out.trans (b.mono HB.out.size))
    clear b
    go_wp2_with fail
    go_ret
    exact ⟨by rw [HD.out]; first | rfl | exact ret_bool (by simp [hc]), HB2.out⟩
end Go.Proofs.Ytimidoaafllnkaa.Talk
