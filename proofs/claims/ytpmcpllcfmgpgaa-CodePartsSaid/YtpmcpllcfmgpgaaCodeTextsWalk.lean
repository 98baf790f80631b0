/-
  The walk of CodeTexts: it returns true whatever comes, and leaves all that was in memory as it was.
-/
import Derived.Test.YtpmcpllcfmgpgaaCodeK
namespace Go.Proofs.Ytpmcpllcfmgpgaa.Code
open Go.RowKit Go.Shelf Go.Maps
set_option linter.unusedVariables false

theorem rowOf_nil (w : World) : RowOf .u8 w (.slice none 0 0) [] := ⟨none, 0, rfl, fun h => absurd rfl h⟩
theorem same_yes (u v : Value) (A : List Int) (w : World) (hA : RowOf .u8 w u A) (hB : RowOf .u8 w v A) (hm : A.length ≤ maxLen) :
    Calls Try.prog 30 #[u, v] w fun e w' => e = .returned (.bool true) ∧ Below w.heap.size w w' := by
  refine (same_any u v A A w hA hB hm).mono ?_
  rintro e w' ⟨rfl, n, rfl⟩
  exact ⟨by simp, below_drewN (Below.refl _ _) _⟩
theorem bts_length (page : Int) (s : ByteArray) : ∀ f pos L, bts page s f pos = some L → pos ≤ s.size → L.length + pos ≤ s.size
  | 0, pos, L, h, hp => by simp [bts] at h; subst h; simpa using hp
  | f + 1, pos, L, h, hp => by
    unfold bts at h
    by_cases hl : pos < s.size
    · rw [if_pos hl] at h
      by_cases hg : good page (Utf8.decode s pos).1 = true
      · rw [if_pos hg] at h
        obtain ⟨M, hM, rfl⟩ := Option.map_eq_some_iff.1 h
        have h1 := width_pos s pos hl
        have h2 : pos + (Utf8.decode s pos).2 ≤ s.size := by
          have hne : s.data.toList.drop pos ≠ [] := by
            intro e
            have := congrArg List.length e
            rw [List.length_drop, Array.length_toList] at this
            have : s.data.size = s.size := rfl
            simp at *; omega
          have := Lib.decodeL_le (s.data.toList.drop pos) hne
          rw [Lib.decodeL_drop, List.length_drop, Array.length_toList] at this
          have : s.data.size = s.size := rfl
          omega
        have := bts_length page s f _ M hM h2
        simp only [List.length_cons]; omega
      · rw [if_neg hg] at h; cases h
    · rw [if_neg hl] at h; cases h; simpa using hp
theorem bytesOf_length (page : Int) (s : ByteArray) (L : List Int) (h : bytesOf page s = some L) : L.length ≤ s.size := by
  have := bts_length page s _ 0 L h (Nat.zero_le _); omega

set_option maxHeartbeats 2000000 in
theorem codeTexts_walk {w : World} (page : Int) (hp : (Lit.int .i64 page).wf = true) (v : Value) (L : List Int) (hv : RowOf .u8 w v L ∧ L.length ≤ maxLen ∧ IsBytes L) (s : ByteArray) (hs : s.size ≤ maxLen) :
    Calls Try.prog 4 #[.int .i64 page, v, .string s] w fun e w' => e = .returned (.bool true) ∧ Below w.heap.size w w' := by
  obtain ⟨hv, hm, hb⟩ := hv
  unfold maxLen at hm hs
  obtain ⟨a, cap, rfl, hra⟩ := id hv
  obtain ⟨n, hn⟩ : ∃ n, n = L.length := ⟨_, rfl⟩
  have HN := Lib.hid hn.symm
  rw [← hn] at hv hm ⊢
  clear hra hn
  by_cases h1 : 300 < n
  · have g1 : (300 : Int) < (n : Int) := by omega
    clear h1 hv
    go_enter Try.func4, Try.ntmps4
    go_wp2_with fail
    refine (alive1_any _).mono ?_
    rintro e w1 ⟨rfl, B1⟩
    go_wp2_with fail
    go_ret
    exact ⟨rfl, B1⟩
  · by_cases h2 : 300 < s.size
    · have g1 : (n : Int) ≤ 300 := by omega
      have g2 : (300 : Int) < (s.size : Int) := by omega
      clear h1 h2 hv
      go_enter Try.func4, Try.ntmps4
      go_wp2_with fail
      refine (alive1_any _).mono ?_
      rintro e w1 ⟨rfl, B1⟩
      go_wp2_with fail
      go_ret
      exact ⟨rfl, B1⟩
    · have g1 : (n : Int) ≤ 300 := by omega
      have g2 : (s.size : Int) ≤ 300 := by omega
      have h3 : s.size ≤ 300 := by omega
      clear h1 h2
      rcases hbo : bytesOf page s with _ | M
      · have HBO := Lib.hid hbo
        clear hbo
        go_enter Try.func4, Try.ntmps4
        go_wp2_with fail
        refine (alive1_any _).mono ?_
        rintro e w1 ⟨rfl, B1⟩
        have hv1 := hv.below B1
        clear hv
        go_wp2_with fail
        refine (bres_no (bytes_any page s _ (by omega)) HBO.out).mono ?_
        rintro e w2 ⟨rfl, hb2⟩
        have hv2 := hv1.below hb2
        have B2 := B1.trans (hb2.mono B1.size)
        clear hv1 B1 hb2
        go_wp2_with fail
        refine (bres_no (rbytes_any page s _ (by omega)) HBO.out).mono ?_
        rintro e w3 ⟨rfl, hb3⟩
        have hv3 := hv2.below hb3
        have B3 := B2.trans (hb3.mono B2.size)
        clear hv2 B2 hb3
        obtain ⟨tx, htx⟩ : ∃ tx : ByteArray, ⟨(textOf page L).toArray⟩ = tx := ⟨_, rfl⟩
        have HTX := Lib.hid htx
        clear htx
        have htt : (tx.toList == tx.toList) = true := by simp
        go_wp2_with fail
        refine (to_str (text_any page _ L _ hv3 hb (by rw [HN.out]; omega)) HTX.out).mono ?_
        rintro e w4 ⟨rfl, hb4⟩
        have hv4 := hv3.below hb4
        have B4 := B3.trans (hb4.mono B3.size)
        clear hv3 B3 hb4
        go_wp2_with fail
        refine (to_str (rtext_any page _ L _ hv4 hb (by rw [HN.out]; omega)) HTX.out).mono ?_
        rintro e w5 ⟨rfl, hb5⟩
        have B5 := B4.trans (hb5.mono B4.size)
        clear hv4 B4 hb5
        go_wp2_with fail
        refine (same_yes _ _ [] _ (rowOf_nil _) (rowOf_nil _) (by simp)).mono ?_
        rintro e w6 ⟨rfl, hb6⟩
        have B6 := B5.trans (hb6.mono B5.size)
        go_wp2_with fail
        go_ret
        exact ⟨rfl, B6⟩
      · have HBO := Lib.hid hbo
        clear hbo
        have hml := bytesOf_length page s M HBO.out
        go_enter Try.func4, Try.ntmps4
        go_wp2_with fail
        refine (alive1_any _).mono ?_
        rintro e w1 ⟨rfl, B1⟩
        have hv1 := hv.below B1
        clear hv
        go_wp2_with fail
        refine (bres_yes (bytes_any page s _ (by omega)) HBO.out).mono ?_
        rintro e w2 ⟨gv, rfl, hg2, _, hb2⟩
        have hv2 := hv1.below hb2
        have B2 := B1.trans (hb2.mono B1.size)
        clear hv1 B1 hb2
        go_wp2_with fail
        refine (bres_yes (rbytes_any page s _ (by omega)) HBO.out).mono ?_
        rintro e w3 ⟨rv, rfl, hr3, _, hb3⟩
        have hv3 := hv2.below hb3
        have hg3 := hg2.below hb3
        have B3 := B2.trans (hb3.mono B2.size)
        clear hv2 hg2 B2 hb3
        obtain ⟨tx, htx⟩ : ∃ tx : ByteArray, ⟨(textOf page L).toArray⟩ = tx := ⟨_, rfl⟩
        have HTX := Lib.hid htx
        clear htx
        have htt : (tx.toList == tx.toList) = true := by simp
        go_wp2_with fail
        refine (to_str (text_any page _ L _ hv3 hb (by rw [HN.out]; omega)) HTX.out).mono ?_
        rintro e w4 ⟨rfl, hb4⟩
        have hv4 := hv3.below hb4
        have B4 := B3.trans (hb4.mono B3.size)
        have hg4 := hg3.below hb4
        have hr4 := hr3.below hb4
        clear hv3 B3 hb4 hg3 hr3
        go_wp2_with fail
        refine (to_str (rtext_any page _ L _ hv4 hb (by rw [HN.out]; omega)) HTX.out).mono ?_
        rintro e w5 ⟨rfl, hb5⟩
        have B5 := B4.trans (hb5.mono B4.size)
        have hg5 := hg4.below hb5
        have hr5 := hr4.below hb5
        clear hv4 B4 hb5 hg4 hr4
        go_wp2_with fail
        refine (same_yes _ _ M _ hg5 hr5 (by unfold maxLen; omega)).mono ?_
        rintro e w6 ⟨rfl, hb6⟩
        have B6 := B5.trans (hb6.mono B5.size)
        go_wp2_with fail
        go_ret
        exact ⟨rfl, B6⟩

end Go.Proofs.Ytpmcpllcfmgpgaa.Code
