/-
  Contract of Find of package plane.
-/
import Derived.Test.YtkkcdahfiegopaaDoorPlJ
import Derived.Test.YtkkcdahfiegopaaDoorPlKA
namespace Go.Proofs.YtkkcdahfiegopaaDoor.Pl
open Go.RowKit Go.Shelf Base
set_option linter.unusedVariables false
set_option linter.unusedSimpArgs false

theorem cat_val (a b : List UInt8) : (ByteArray.mk a.toArray ++ ByteArray.mk b.toArray).data.toList = a ++ b := by
  rw [ByteArray.data_append, Array.toList_append]
theorem extract_val (Z : ByteArray) (n : Nat) : Z.extract 0 n = ⟨(Z.data.toList.take n).toArray⟩ := by
  apply ByteArray.ext
  rw [ByteArray.data_extract]
  apply Array.toList_inj.1
  simp
set_option maxRecDepth 100000 in
set_option maxHeartbeats 4000000 in
theorem find_any {w : World} {b g : Nat} {r c cur : Int} {L : List Cl} (h : PlAt w b g r c cur L) (hok : OkL L) (hg : Glob w) (page : Int) (t : List UInt8) (ht : t.length ≤ 1000000000000000) :
    Calls Tryd.prog 25 #[.pointer (some ⟨b, 0, none⟩), .int .i64 page, .string ⟨t.toArray⟩] w fun e W => e = .returned (.int .i64 (findL page L t)) ∧ Below w.heap.size w W := by
  obtain ⟨res, hres⟩ : ∃ res, res = findL page L t := ⟨_, rfl⟩
  rw [← hres]
  have HRES := Lib.hid hres
  have hmx := h.most
  have hts : (ByteArray.mk t.toArray).size = t.length := by simp [ByteArray.size]
  obtain ⟨T, hT⟩ : ∃ T, T = ByteArray.mk t.toArray := ⟨_, rfl⟩
  have hTl : T.data.toList = t := by rw [hT]
  rw [← hT] at hts ⊢
  obtain ⟨k, hk⟩ : ∃ k, k = Lib.runeCount T := ⟨_, rfl⟩
  have HK := Lib.hid hk
  have HT := Lib.hid hT
  have HTL := Lib.hid hTl
  have HH := Lib.hid h
  have HG := Lib.hid hg
  obtain ⟨N, hN⟩ : ∃ N, N = L.length := ⟨_, rfl⟩
  have HN := Lib.hid hN
  have hkl : k ≤ T.size := by rw [hk]; exact Lib.runeCount_le T
  have HRC := Lib.hid (Tryd.utf8_RuneCountInString T w (by omega))
  have HLEN : Hid (∀ X, PlAt X b g r c cur L → Calls Tryd.prog 20 #[.pointer (some ⟨b, 0, none⟩)] X fun e X' => e = .returned (.int .i64 (N : Nat)) ∧ X = X') := by rw [hN]; exact fun X hX => len_any hX
  rw [← hN] at hmx
  clear hres hk hT hTl h hg hN
  go_enter Tryd.func25, Tryd.ntmps25
  go_wp2_with fail
  have hrc := HRC.out
  rw [← HK.out] at hrc
  refine hrc.mono ?_
  rintro e w1 ⟨rfl, pos, hw1⟩
  have hb1 : Below w.heap.size w w1 := by rw [hw1]; exact below_alloc w _
  have HB1 := Lib.hid hb1
  have HP1 := Lib.hid (HH.out.below hb1)
  have HL1 := Lib.hid (HLEN.out w1 HP1.out)
  have HG1 := Lib.hid (HG.out.below hb1)
  clear hw1 hb1 hrc HRC
  by_cases hlt : N < k
  · have hki : (N : Int) < (k : Int) := by omega
    go_wp2_with (go_at_call 20; (with_reducible refine HL1.out.mono ?_); rintro e w2 ⟨rfl, rfl⟩)
    go_ret
    refine ⟨ret_int ?_, HB1.out⟩
    rw [HRES.out]; unfold findL; rw [← HT.out, ← HK.out, ← HN.out, if_pos hlt]
  · have hki : (k : Int) ≤ (N : Int) := by omega
    have HV := Lib.hid (valid_any T w1 (by omega) HG1.out.tabs)
    obtain ⟨vd, hvd⟩ : ∃ vd, vd = Lib.validD T.data.toList := ⟨_, rfl⟩
    have HVD := Lib.hid hvd
    rw [← hvd] at HV
    clear hvd
    cases vd with
    | false =>
      go_wp2_with (first | (go_at_call 20; (with_reducible refine HL1.out.mono ?_); rintro e w2 ⟨rfl, rfl⟩) | (go_at_call 45; (with_reducible refine HV.out.mono ?_); rintro e w2 ⟨rfl, hb2⟩; have HB2 := Lib.hid hb2; clear hb2))
      go_ret
      refine ⟨ret_int ?_, HB1.out.trans (HB2.out.mono HB1.out.size)⟩
      rw [HRES.out]; unfold findL; rw [← HT.out, ← HK.out, ← HN.out, if_neg hlt, if_pos (by rw [← HTL.out]; exact HVD.out.symm)]
    | true =>
      have hk0 : (0 : Int) ≤ (k : Int) := by omega
      have hN1 : (N : Int) ≤ 4096 := by omega
      obtain ⟨SA, hSA⟩ : ∃ SA, SA = ByteArray.mk (textL page L 0 N).toArray := ⟨_, rfl⟩
      obtain ⟨SB, hSB⟩ : ∃ SB, SB = ByteArray.mk (textL page L 0 ((k : Int) - 1)).toArray := ⟨_, rfl⟩
      have hA1 := textL_le hok (by rw [← HN.out]; exact hmx) page 0 N
      have hB1 := textL_le hok (by rw [← HN.out]; exact hmx) page 0 ((k : Int) - 1)
      have hsA : SA.size ≤ 16384 := by rw [hSA]; simpa [ByteArray.size] using hA1
      have hsB : SB.size ≤ 16384 := by rw [hSB]; simpa [ByteArray.size] using hB1
      have hadd : ∀ w : World, (Op.stringOp .add SA SB).run Tryd.prog w = .ok (.string (SA ++ SB)) w := fun w => run_string_add_sum w _ _ (by omega)
      have HTA : Hid (∀ X, PlAt X b g r c cur L → Calls Tryd.prog 24 #[.pointer (some ⟨b, 0, none⟩), .int .i64 page, .int .i64 0, .int .i64 (N : Nat)] X fun e W => e = .returned (.string SA) ∧ Below X.heap.size X W) := by
        rw [hSA]; exact fun X hX => text_any hX hok page 0 N
      have HTB : Hid (∀ X, PlAt X b g r c cur L → Calls Tryd.prog 24 #[.pointer (some ⟨b, 0, none⟩), .int .i64 page, .int .i64 0, .int .i64 ((k : Int) - 1)] X fun e W => e = .returned (.string SB) ∧ Below X.heap.size X W) := by
        rw [hSB]; exact fun X hX => text_any hX hok page 0 _
      have hZ : (SA ++ SB).data.toList = allL page L k := by
        rw [hSA, hSB, cat_val]
        unfold allL
        rw [← HN.out]
      have hZs : (SA ++ SB).size ≤ 32768 := by rw [ByteArray.size_append]; omega
      obtain ⟨Z, hZZ⟩ : ∃ Z, Z = SA ++ SB := ⟨_, rfl⟩
      rw [← hZZ] at hadd hZ hZs
      obtain ⟨i, hi⟩ : ∃ i, i = Lib.index Z.data.toList T.data.toList := ⟨_, rfl⟩
      have HI := Lib.hid hi
      have HZ := Lib.hid hZ
      have hil : i ≤ Z.size := by
        have := Lib.index_le Z.data.toList T.data.toList
        rw [hi]
        rw [Array.length_toList] at this
        exact this
      have HIX : Hid (∀ X, Glob X → Calls Tryd.prog 46 #[.string Z, .string T] X fun e W => e = .returned (.int .i64 i) ∧ W = X) := by
        rw [hi]
        exact fun X hX => by obtain ⟨m, hm⟩ := hX.most; exact Tryd.strings_Index Z T m X (by omega) hm
      clear hSA hSB hA1 hB1 hZ hZZ hi
      go_wp2_with (first
        | (go_at_call 20; first | ((with_reducible refine HL1.out.mono ?_); rintro e w2 ⟨rfl, rfl⟩) | ((with_reducible refine HL2.out.mono ?_); rintro e w2 ⟨rfl, rfl⟩))
        | (go_at_call 45; (with_reducible refine HV.out.mono ?_); rintro e w2 ⟨rfl, hb2⟩; have HB2 := Lib.hid (HB1.out.trans (hb2.mono HB1.out.size)); have HP2 := Lib.hid (HP1.out.below hb2); have HL2 := Lib.hid (HLEN.out w2 HP2.out); have HG2 := Lib.hid (HG1.out.below hb2); have HTA2 := Lib.hid (HTA.out _ HP2.out); clear hb2 HL1)
        | (go_at_call 24; first
          | ((with_reducible refine HTA2.out.mono ?_); rintro e w3 ⟨rfl, hb3⟩; have HB3 := Lib.hid (HB2.out.trans (hb3.mono HB2.out.size)); have HP3 := Lib.hid (HP2.out.below hb3); have HG3 := Lib.hid (HG2.out.below hb3); have HTB3 := Lib.hid (HTB.out _ HP3.out); clear hb3 HTA2)
          | ((with_reducible refine HTB3.out.mono ?_); rintro e w4 ⟨rfl, hb4⟩; have HB4 := Lib.hid (HB3.out.trans (hb4.mono HB3.out.size)); have HG4 := Lib.hid (HG3.out.below hb4); have HIX4 := Lib.hid (HIX.out _ HG4.out); clear hb4 HTB3)))
      refine HIX4.out.mono ?_
      rintro e w5 ⟨rfl, rfl⟩
      clear HIX4
      by_cases hi0 : i < 0
      · go_wp2
        go_ret
        refine ⟨ret_int ?_, HB4.out⟩
        have hx : Lib.index (allL page L k) t = i := by rw [HI.out, HZ.out, HTL.out]
        rw [HRES.out]; unfold findL; rw [← HT.out, ← HK.out, ← HN.out, if_neg hlt, if_neg (by rw [← HTL.out, ← HVD.out]; decide), hx, if_pos hi0]
      · have hi1 : 0 ≤ i := by omega
        have hRI := Tryd.utf8_RuneCountInString (Z.extract 0 i.toNat) w5 (by rw [ByteArray.size_extract]; omega)
        have HRI := Lib.hid hRI
        have HIL := Lib.hid hil
        clear hRI hil
        go_wp2_with fail
        refine HRI.out.mono ?_
        rintro e w6 ⟨rfl, pos, hw6⟩
        have hb6 : Below w5.heap.size w5 w6 := by rw [hw6]; exact below_alloc w5 _
        clear HRI hw6
        go_wp2
        go_ret
        refine ⟨ret_int ?_, HB4.out.trans (hb6.mono HB4.out.size)⟩
        have hx : Lib.index (allL page L k) t = i := by rw [HI.out, HZ.out, HTL.out]
        rw [HRES.out]; unfold findL; rw [← HT.out, ← HK.out, ← HN.out, if_neg hlt, if_neg (by rw [← HTL.out, ← HVD.out]; decide), hx, if_neg (show ¬ i < 0 by omega), ← HZ.out, ← extract_val]
theorem find_k : FindK := fun h hok hg page t ht => find_any h hok hg page t ht
end Go.Proofs.YtkkcdahfiegopaaDoor.Pl
