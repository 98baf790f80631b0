/-
  The walk of CodeBack: it returns true whatever comes, and leaves all that was in memory as it was.
-/
import Derived.Test.YtpmcpllcfmgpgaaCodeTextsWalk
namespace Go.Proofs.Ytpmcpllcfmgpgaa.Code
open Go.RowKit Go.Shelf Go.Maps
set_option linter.unusedVariables false

/-- The bytes that are seen. -/
def flt (L : List Int) : List Int := L.filter fun x => decide (64 ≤ x ∧ x ≤ 254)
theorem flt_seen (L : List Int) : Seen (flt L) := fun x hx => by
  have := (List.mem_filter.1 hx).2
  simpa using this
theorem flt_length (L : List Int) : (flt L).length ≤ L.length := List.length_filter_le _ _
theorem flt_snoc (L : List Int) (x : Int) : flt (L ++ [x]) = if 64 ≤ x ∧ x ≤ 254 then flt L ++ [x] else flt L := by
  unfold flt
  rw [List.filter_append]
  by_cases h : 64 ≤ x ∧ x ≤ 254
  · rw [if_pos h]; simp [h]
  · rw [if_neg h]; simp [h]
def BkRel (L : List Int) (n : Nat) (w : World) (v i : Value) (wr : World) : Prop :=
  ∃ k : Nat, k ≤ n ∧ i = .int .i64 k ∧ wr.ownsRow w.heap.size 5 1 v (flt (L.take k)).length ((flt (L.take k)).map (Value.int .u8)) ∧ Below w.heap.size w wr ∧ (∃ g m c, v = .slice g m c)
theorem bk_start (w : World) (L : List Int) (n : Nat) : BkRel L n w (.slice (some ⟨w.heap.size, 0, none⟩) 0 0) (.int .i64 0) (w.alloc (.cells #[] 5)) := by
  refine ⟨0, Nat.zero_le _, rfl, ?_, (Below.refl _ w).alloc (Nat.le_refl _) _, ⟨_, _, _, rfl⟩⟩
  have := World.ownsRow_made (e := 5) (size := 1) w #[] 0 (Nat.le_refl _) (by simp [maxLen]) (by simp)
  simpa [flt] using this
theorem own_slice {w : World} {base : Nat} {e : TypeId} {size n : Nat} {v : Value} {xs : List Value} (h : w.ownsRow base e size v n xs) : ∃ g m c, v = .slice g m c := by
  rcases h.2 with ⟨h, _⟩ | ⟨g, cap, cur, h, _⟩
  · exact ⟨_, _, _, h⟩
  · exact ⟨_, _, _, h⟩

set_option maxHeartbeats 4000000 in
theorem codeBack_walk {w : World} (page : Int) (hp : (Lit.int .i64 page).wf = true) (v : Value) (L : List Int) (hv : RowOf .u8 w v L ∧ L.length ≤ maxLen ∧ IsBytes L) (s : ByteArray) (hs : s.size ≤ maxLen) :
    Calls Try.prog 6 #[.int .i64 page, v, .string s] w fun e w' => e = .returned (.bool true) ∧ Below w.heap.size w w' := by
  obtain ⟨i0, hi, hz0, hz1, hz2⟩ := info_parts infoByte2
  obtain ⟨hv, hm, hb⟩ := hv
  unfold maxLen at hm hs
  obtain ⟨a, cap, rfl, hra⟩ := id hv
  obtain ⟨n, hn⟩ : ∃ n, n = L.length := ⟨_, rfl⟩
  have HN := Lib.hid hn.symm
  rw [← hn] at hm hra ⊢
  clear hv hn
  by_cases h1 : 300 < n
  · have g1 : (300 : Int) < (n : Int) := by omega
    clear h1 hra
    go_enter Try.func6, Try.ntmps6
    go_wp2_with fail
    refine (alive1_any _).mono ?_
    rintro e w1 ⟨rfl, B1⟩
    go_wp2_with fail
    go_ret
    exact ⟨rfl, B1⟩
  · by_cases h2 : 300 < s.size
    · have g1 : (n : Int) ≤ 300 := by omega
      have g2 : (300 : Int) < (s.size : Int) := by omega
      clear h1 h2 hra
      go_enter Try.func6, Try.ntmps6
      go_wp2_with fail
      refine (alive1_any _).mono ?_
      rintro e w1 ⟨rfl, B1⟩
      go_wp2_with fail
      go_ret
      exact ⟨rfl, B1⟩
    · have g1 : (n : Int) ≤ 300 := by omega
      have g2 : (s.size : Int) ≤ 300 := by omega
      have h3 : s.size ≤ 300 := by omega
      clear h1 h2
      have HRA := Lib.hid hra
      clear hra
      go_enter Try.func6, Try.ntmps6
      go_wp2_with fail
      refine (alive1_any _).mono ?_
      rintro e w1 ⟨rfl, B1⟩
      have hst := bk_start w1 L n
      go_wp2_with fail
      go_loopw [7, 27] (BkRel L n w1) (fun _ i _ => n - (intOf i).toNat)
      case atStart => exact hst
      case round =>
        obtain ⟨k, hk, rfl, ho, hBw, ⟨sg, sn, sc, rfl⟩⟩ := hrel
        by_cases hlt : k < n
        · have hkn : (k : Int) < (n : Int) := by omega
          obtain ⟨b, off, rfl, hcell⟩ := HRA.out (fun e => by have := HN.out; rw [e] at this; simp at this; omega)
          obtain ⟨x, hx⟩ : ∃ x, x = L[k]?.getD 0 := ⟨_, rfl⟩
          have hc := cell_later (B1.trans (hBw.mono B1.size)) (hcell k hlt)
          have hxb := hb.at k (by rw [HN.out]; exact hlt)
          rw [← hx] at hc hxb
          obtain ⟨x0, x1⟩ := hxb
          have HX : Hid (L.take (k + 1) = L.take k ++ [x]) := by rw [hx]; exact take_snoc L k (by rw [HN.out]; exact hlt)
          have hfl := flt_length (L.take k)
          rw [List.length_take] at hfl
          have HFS := Lib.hid (flt_snoc (L.take k) x)
          have hszr := hBw.size
          clear hx hcell
          by_cases hg : 64 ≤ x ∧ x ≤ 254
          · have HG := Lib.hid hg
            clear hg
            go_wp2_with fail
            refine (to_bool (graphic_any x _ x0 x1) (decide_eq_true HG.out)).mono ?_
            rintro e w' ⟨rfl, rfl⟩
            go_wp2_with (at_builtin; refine wpList_append_own _ rfl _ _ 32 rfl w1.heap.size 5 i0 (.int .u8 0) 1 1 Try.underlying32 hi hz0 hz1 hz2 rfl (by decide) _ _ _ rfl (ho.alloc _) ⟨wr.heap.size, 0, none⟩ 1 1 [.int .u8 x] rfl rfl (cell_one_new _ _ _) (by simp [Value.oneCell']) (by unfold maxLen; omega) (by omega) (by simp; omega) ?_; intro v' w2 hown' hgrow _)
            have hown2 := Lib.hid hown'
            have hshape := own_slice hown'
            have hB2 := (hBw.alloc hBw.size _).grown hgrow (by rw [World.size_alloc]; have := hBw.size; omega) (fun k e => (ho.lt k e).1)
            clear hown' hgrow
            go_roundw
            case rel =>
              refine ⟨k + 1, by omega, by go_num, ?_, hB2, hshape⟩
              rw [HX.out, HFS.out, if_pos HG.out]
              simpa using hown2.out
            case measure => simp [intOf]; omega
          · have HG := Lib.hid hg
            clear hg
            go_wp2_with fail
            refine (to_bool (graphic_any x _ x0 x1) (decide_eq_false HG.out)).mono ?_
            rintro e w' ⟨rfl, rfl⟩
            go_wp2_with fail
            go_roundw
            case rel =>
              refine ⟨k + 1, by omega, by go_num, ?_, hBw, ⟨_, _, _, rfl⟩⟩
              rw [HX.out, HFS.out, if_neg HG.out]
              exact ho
            case measure => simp [intOf]; omega
        · obtain rfl : k = n := by omega
          rw [List.take_of_length_le (by rw [HN.out]; omega)] at ho
          have B2 := B1.trans (hBw.mono B1.size)
          have hr2 := RowOf.of_owns ho
          have hfl := flt_length L
          rw [HN.out] at hfl
          obtain ⟨F, hF⟩ : ∃ F, F = flt L := ⟨_, rfl⟩
          have hFs : Seen F := by rw [hF]; exact flt_seen L
          rw [← hF] at hr2 hfl
          clear ho hBw B1 hF
          have htl := textOf_le page F
          obtain ⟨tx, htx⟩ : ∃ tx : ByteArray, ⟨(textOf page F).toArray⟩ = tx := ⟨_, rfl⟩
          have htz : tx.size = (textOf page F).length := by rw [← htx]; rfl
          have HBO : Hid (bytesOf page tx = some F) := by rw [← htx]; exact bytesOf_text page F hFs
          have HTX := Lib.hid htx
          have hss : (s.toList == s.toList) = true := by simp
          clear htx
          go_wp2_with fail
          refine (to_str (text_any page _ F _ hr2 hFs.bytes (by omega)) HTX.out).mono ?_
          rintro e w3 ⟨rfl, hb3⟩
          have B3 := B2.trans (hb3.mono B2.size)
          have hr3 := hr2.below hb3
          clear B2 hb3 hr2
          go_wp2_with fail
          refine (bres_yes (bytes_any page tx _ (by omega)) HBO.out).mono ?_
          rintro e w4 ⟨gv, rfl, hg4, _, hb4⟩
          have B4 := B3.trans (hb4.mono B3.size)
          have hr4 := hr3.below hb4
          clear B3 hb4 hr3
          go_wp2_with fail
          refine (same_yes _ _ F _ hg4 hr4 (by unfold maxLen; omega)).mono ?_
          rintro e w5 ⟨rfl, hb5⟩
          have B5 := B4.trans (hb5.mono B4.size)
          clear B4 hb5 hg4 hr4
          rcases hbo : bytesOf page s with _ | M
          · have HB2 := Lib.hid hbo
            clear hbo
            go_wp2_with fail
            refine (bres_no (bytes_any page s _ (by omega)) HB2.out).mono ?_
            rintro e w6 ⟨rfl, hb6⟩
            have B6 := B5.trans (hb6.mono B5.size)
            clear B5 hb6
            go_wp2_with fail
            go_ret
            exact ⟨rfl, B6⟩
          · obtain ⟨htm, hMs⟩ := text_bytesOf page s M hbo
            have hml := bytesOf_length page s M hbo
            have HB2 := Lib.hid hbo
            have HTM := Lib.hid htm
            clear hbo htm
            go_wp2_with fail
            refine (bres_yes (bytes_any page s _ (by omega)) HB2.out).mono ?_
            rintro e w6 ⟨rv, rfl, hg6, _, hb6⟩
            have B6 := B5.trans (hb6.mono B5.size)
            clear B5 hb6
            go_wp2_with fail
            refine (to_str (text_any page _ M _ hg6 hMs.bytes (by omega)) HTM.out).mono ?_
            rintro e w7 ⟨rfl, hb7⟩
            have B7 := B6.trans (hb7.mono B6.size)
            clear B6 hb7
            go_wp2_with fail
            go_ret
            exact ⟨rfl, B7⟩

end Go.Proofs.Ytpmcpllcfmgpgaa.Code
