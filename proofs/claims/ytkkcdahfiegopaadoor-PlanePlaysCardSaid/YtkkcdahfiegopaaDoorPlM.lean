/-
  The statements' own example of plane.
-/
import Derived.Test.YtkkcdahfiegopaaDoorPlL
import Derived.Deep.RegionHeld3
namespace Go.Proofs.YtkkcdahfiegopaaDoor.Pl
open Go.RowKit Go.Shelf Base
set_option linter.unusedVariables false
set_option linter.unusedSimpArgs false

theorem cfield0 (b l c : Int) (g s : Bool) (w : World) : (Instr.field 36 (.agg #[.int .u8 b, .bool g, .bool s, .int .u8 l, .int .u8 c]) 0).run Tryd.prog w = .ok (.int .u8 b) w := by kernel_rfl
set_option maxRecDepth 100000 in
set_option maxHeartbeats 8000000 in
theorem pl_alive (hF : FindK) (w : World) (hG : Glob w) : Calls Tryd.prog 8 #[] w fun e W => e = .returned (.bool true) ∧ Below w.heap.size w W := by
  have HG0 := Lib.hid hG
  have HF : Hid FindK := Lib.hid (p := FindK) hF
  have HN1 := Lib.hid (new_yes 2 3 6 w al_cells.1 (by omega) (by omega))
  clear hG hF
  go_enter Tryd.func8, Tryd.ntmps8
  go_wp2_with fail
  refine HN1.out.mono ?_
  rintro e w1 ⟨b, g, rfl, P1, hb1, lb, lg⟩
  have HP1 := Lib.hid P1
  have HB1 := Lib.hid hb1
  have HN2 := Lib.hid (new_no 0 0 w1 al_cells.2)
  clear P1 hb1 HN1
  go_wp2_with fail
  refine HN2.out.mono ?_
  rintro e w2 ⟨rfl, hb2⟩
  have HP2 := Lib.hid (show PlAt w2 b g 2 3 0 al0 from HP1.out.below hb2)
  have HB2 := Lib.hid (HB1.out.trans (hb2.mono HB1.out.size))
  clear hb2 HN2 HP1 HB1
  have hf := fill_any HP2.out 5 1 xA
  rw [show ((al0.length : Nat) : Int) = 6 from rfl, al_fill] at hf
  have HFI := Lib.hid hf
  clear hf
  go_wp2_with fail
  refine HFI.out.mono ?_
  rintro e w3 ⟨rfl, P3, t3⟩
  have HP3 := Lib.hid (show PlAt w3 b g 2 3 0 al1 from P3)
  have HB3 := Lib.hid (HB2.out.trans (t3.at_below HB2.out.size lg))
  have hr := rows_any HP3.out al_ok1 37
  rw [show ((2 : Int).toNat) = 2 from rfl, al_rows] at hr
  have HR := Lib.hid hr
  clear P3 t3 hr HFI HP2 HB2
  go_wp2_with fail
  refine HR.out.mono ?_
  rintro e w4 ⟨vr, rfl, ho, hb4⟩
  obtain ⟨rg, rcap, rfl, r0, r1, rlt, rge⟩ := row2 ho
  have HP4 := Lib.hid (HP3.out.below hb4)
  have HB4 := Lib.hid (HB3.out.trans (hb4.mono HB3.out.size))
  have R0 := Lib.hid r0
  have R1 := Lib.hid r1
  have HC := Lib.hid (clone_any HP4.out)
  have hw3 := HB3.out.size
  have hne : rg ≠ b ∧ rg ≠ g := by
    have h1 := HP3.out.lt
    have h2 := HP3.out.ltg
    constructor <;> omega
  clear ho hb4 r0 r1 HR HP3 HB3
  go_wp2_with fail
  refine HC.out.mono ?_
  rintro e w5 ⟨b2, g2, rfl, Q5, hb5, lb2, lg2⟩
  have HP5 := Lib.hid (HP4.out.below hb5)
  have HQ5 := Lib.hid Q5
  have HB5 := Lib.hid (HB4.out.trans (hb5.mono HB4.out.size))
  have R05 := Lib.hid (cell_later hb5 R0.out)
  have R15 := Lib.hid (cell_later hb5 R1.out)
  have hd : b2 ≠ b ∧ b2 ≠ g ∧ g2 ≠ b ∧ g2 ≠ g := by
    have h1 := HP4.out.lt
    have h2 := HP4.out.ltg
    refine ⟨?_, ?_, ?_, ?_⟩ <;> omega
  have HS := Lib.hid (set_any HP5.out 1 xB)
  clear Q5 hb5 R0 R1 HC HP4 HB4
  go_wp2_with fail
  refine HS.out.mono ?_
  rintro e w6 ⟨rfl, P6, t6⟩
  rw [al_has.1]
  have HP6 := Lib.hid (show PlAt w6 b g 2 3 0 al2 from P6)
  have HQ6 := Lib.hid (HQ5.out.turn t6 (by show b2 ≠ g; exact hd.2.1) (by show g2 ≠ g; exact hd.2.2.2))
  have R06 := Lib.hid (cell_turned t6 (by show rg ≠ g; exact hne.2) R05.out)
  have R16 := Lib.hid (cell_turned t6 (by show rg ≠ g; exact hne.2) R15.out)
  have HB6 := Lib.hid (HB5.out.trans (t6.at_below HB5.out.size lg))
  have hp := point_any HP6.out 4
  rw [al_has.2.1] at hp
  have HPT := Lib.hid hp
  clear P6 t6 hp HS HP5 HQ5 R05 R15 HB5
  go_wp2_with fail
  refine HPT.out.mono ?_
  rintro e w7 ⟨rfl, P7, t7⟩
  have HP7 := Lib.hid (show PlAt w7 b g 2 3 4 al2 from P7)
  have HQ7 := Lib.hid (HQ6.out.turn t7 (by show b2 ≠ b; exact hd.1) (by show g2 ≠ b; exact hd.2.2.1))
  have R07 := Lib.hid (cell_turned t7 (by show rg ≠ b; exact hne.1) R06.out)
  have R17 := Lib.hid (cell_turned t7 (by show rg ≠ b; exact hne.1) R16.out)
  have HB7 := Lib.hid (HB6.out.trans (t7.at_below HB6.out.size lb))
  have hp := point_any HP7.out 6
  rw [al_has.2.2] at hp
  have HPT2 := Lib.hid hp
  clear P7 t7 hp HPT HP6 HQ6 R06 R16 HB6
  go_wp2_with fail
  refine HPT2.out.mono ?_
  rintro e w8 ⟨rfl, P8, t8⟩
  have HP8 := Lib.hid (show PlAt w8 b g 2 3 4 al2 from P8)
  have HQ8 := Lib.hid (HQ7.out.turn t8 (by show b2 ≠ b; exact hd.1) (by show g2 ≠ b; exact hd.2.2.1))
  have R08 := Lib.hid (cell_turned t8 (by show rg ≠ b; exact hne.1) R07.out)
  have R18 := Lib.hid (cell_turned t8 (by show rg ≠ b; exact hne.1) R17.out)
  have HB8 := Lib.hid (HB7.out.trans (t8.at_below HB7.out.size lb))
  have HFD := Lib.hid (HF.out HP8.out al_ok2 (HG0.out.below HB8.out) 37 [65, 65] (by simp))
  rw [al_find] at HFD
  clear P8 t8 HPT2 HP7 HQ7 R07 R17 HB7
  go_wp2_with fail
  refine HFD.out.mono ?_
  rintro e w9 ⟨rfl, t9⟩
  have HP9 := Lib.hid (HP8.out.below t9)
  have HQ9 := Lib.hid (HQ8.out.below t9)
  have R09 := Lib.hid (cell_later t9 R08.out)
  have R19 := Lib.hid (cell_later t9 R18.out)
  have HB9 := Lib.hid (HB8.out.trans (t9.mono HB8.out.size))
  have HSM := same_any HP9.out HQ9.out
  rw [al_same] at HSM
  have HSM := Lib.hid HSM
  clear t9 HFD HP8 HQ8 R08 R18 HB8 HF HG0
  go_wp2_with fail
  refine HSM.out.mono ?_
  rintro e w10 ⟨rfl, t10⟩
  have HP10 := Lib.hid (HP9.out.below t10)
  have HQ10 := Lib.hid (HQ9.out.below t10)
  have R010 := Lib.hid (cell_later t10 R09.out)
  have R110 := Lib.hid (cell_later t10 R19.out)
  have HB10 := Lib.hid (HB9.out.trans (t10.mono HB9.out.size))
  have HCL := Lib.hid (clear_any HP10.out)
  clear t10 HSM HP9 HQ9 R09 R19 HB9
  go_wp2_with fail
  refine HCL.out.mono ?_
  rintro e w11 ⟨⟨v, rfl⟩, P11, t11⟩
  have h1 : ∀ k, Or2 (At b) (At g) k → w.heap.size ≤ k := by
    rintro k (hk | hk)
    · rw [show k = b from hk]; exact lb
    · rw [show k = g from hk]; exact lg
  have n1 : ¬ Or2 (At b) (At g) b2 := fun h => h.elim hd.1 hd.2.1
  have n2 : ¬ Or2 (At b) (At g) g2 := fun h => h.elim hd.2.2.1 hd.2.2.2
  have n3 : ¬ Or2 (At b) (At g) rg := fun h => h.elim hne.1 hne.2
  have HA := Lib.hid (show AQ w b g b2 g2 rg w11 from ⟨P11, HQ10.out.turn t11 n1 n2, cell_turned t11 n3 R010.out, cell_turned t11 n3 R110.out, HB10.out.trans (t11.below HB10.out.size h1)⟩)
  clear P11 t11 h1 n1 n2 n3 HCL HP10 HQ10 R010 R110 HB10 hd hne rlt rge hw3 lb2 lg2 lb lg
  obtain ⟨r0, r1, hq⟩ := HA.out.s
  go_wp2_with fail
  clear r0 r1 hq
  refine (aq_cur_q HA.out).mono ?_
  rintro e x ⟨rfl, rfl⟩
  go_wp2_with fail
  refine (aq_at_p HA.out).mono ?_
  rintro e w12 ⟨rfl, h12⟩
  have HA2 := Lib.hid h12
  clear h12 HA
  go_wp2_with fail
  have hfd := cfield0 193 0 0 false false
  refine (aq_at_q HA2.out).mono ?_
  rintro e w13 ⟨rfl, h13⟩
  have HA3 := Lib.hid h13
  clear h13 HA2
  go_wp2_with fail
  refine (aq_cur_p HA3.out).mono ?_
  rintro e x ⟨rfl, rfl⟩
  go_wp2_with fail
  refine (aq_len HA3.out).mono ?_
  rintro e x ⟨rfl, rfl⟩
  go_wp2_with fail
  refine (aq_size HA3.out).mono ?_
  rintro e w14 ⟨rfl, h14⟩
  have HA4 := Lib.hid h14
  clear h14 HA3
  go_wp2_with fail
  refine (aq_text HA4.out).mono ?_
  rintro e w15 ⟨rfl, h15⟩
  have HA5 := Lib.hid h15
  clear h15 HA4
  go_wp2_with fail
  go_ret
  exact ⟨rfl, HA5.out.old⟩
end Go.Proofs.YtkkcdahfiegopaaDoor.Pl
