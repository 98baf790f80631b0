/-
  The walk of OptionRests.
-/
import Derived.Test.YtkolhjglehnigaaLineD
import Derived.Test.YtkolhjglehnigaaOpenB
import Derived.Test.YtkolhjglehnigaaMaskA
namespace Go.Proofs.Ytkolhjglehnigaa.Que
open Go.RowKit Base Opt
set_option linter.unusedVariables false

theorem state_quiet {w : World} {b : Nat} {M : Nat → Bool} {S : Nat → Nat} (h : OptAt w b M S) (ours : Bool) (o : Nat) (ho : o < 256) (x : Nat) (hx : stOf S ours o = x) (n : Nat) :
    Calls Try.prog 32 #[.pointer (some ⟨b, 0, none⟩), .bool ours, .int .u8 o] (w.drewN n) fun e w' => e = .returned (.int .i64 x) ∧ ∃ m, w' = w.drewN m :=
  (state_any ours o ho (h.drewN n)).mono fun e w' ⟨he, hw⟩ => ⟨by rw [he, hx], n, hw.symm⟩
/-- What the rounds find. -/
def WishR (w : World) (l bA bB s : Nat) (MA MB : Nat → Bool) (n : Nat) (i : Value) (wr : World) : Prop := ∃ k : Nat, k ≤ n ∧ i = .int .i64 k ∧ LR w l bA bB s MA MB (2 * k) wr
def ComeR (w : World) (l bA bB s : Nat) (MA MB : Nat → Bool) (m f ow : Nat) (cs : Array Value) (i : Value) (wr : World) : Prop := ∃ j : Nat, j ≤ f ∧ i = .int .i64 j ∧ LR w l bA bB s MA MB m wr ∧ wr.heap[ow]? = some (.cells cs 51 (0, 0))
def LastR (w : World) (l bA bB s : Nat) (MA MB : Nat → Bool) (SA SB : Nat → Nat) (n : Nat) (qA qB : Value) (i : Value) (wr : World) : Prop := ∃ j : Nat, j ≤ 256 ∧ i = .int .i64 j ∧ LN w l bA bB s MA MB SA SB [] [] n qA qB wr
abbrev SW (l i b ow : Nat) (c o : Int) (Z : World) : Prop := Z.cell? ⟨l, i, none⟩ = some (.pointer (some ⟨b, 0, none⟩)) ∧ Z.cell? ⟨ow, 1, none⟩ = some (.int .u8 c) ∧ Z.cell? ⟨ow, 2, none⟩ = some (.int .u8 o)
theorem wish_cells {W : World} {ow : Nat} {a b c d : Value} (h : W.heap[ow]? = some (.cells #[a, b, c, d] 51 (0, 0))) : W.cell? ⟨ow, 0, none⟩ = some a ∧ W.cell? ⟨ow, 1, none⟩ = some b ∧ W.cell? ⟨ow, 2, none⟩ = some c ∧ W.cell? ⟨ow, 3, none⟩ = some d := by
  simp [World.cell?, h]
set_option maxRecDepth 100000 in
set_option maxHeartbeats 2000000 in
theorem optionRests_law {w : World} (u : Value) (A : List Int) (hA : RowOf .u8 w u A ∧ A.length ≤ maxLen ∧ ∀ n ∈ A, Open.Byte n) (v : Value) (B : List Int) (hB : RowOf .u8 w v B ∧ B.length ≤ maxLen ∧ ∀ n ∈ B, Open.Byte n)
    (u2 : Value) (C : List Int) (hC : RowOf .u8 w u2 C ∧ C.length ≤ maxLen ∧ ∀ n ∈ C, Open.Byte n) (v2 : Value) (D : List Int) (hD : RowOf .u8 w v2 D ∧ D.length ≤ maxLen ∧ ∀ n ∈ D, Open.Byte n)
    (z : Value) (L : List (Bool × Nat × Nat × Int)) (hL : Open.WishesAt w z L ∧ L.length ≤ maxLen ∧ ∀ p ∈ L, p.2.1 < 256 ∧ p.2.2.1 < 256 ∧ Open.I64 p.2.2.2) :
    Calls Try.prog 4 #[u, v, u2, v2, z] w fun e W' => e = .returned (.bool true) ∧ Below w.heap.size w W' := by
  obtain ⟨hA, hA2, hA3⟩ := hA
  obtain ⟨hB, hB2, hB3⟩ := hB
  obtain ⟨hC, hC2, hC3⟩ := hC
  obtain ⟨hD, hD2, hD3⟩ := hD
  obtain ⟨⟨la, lcap, rfl, hL⟩, hL2, hL3⟩ := hL
  have HRA := Lib.hid hA
  have HRB := Lib.hid hB
  have HRC := Lib.hid hC
  have HRD := Lib.hid hD
  obtain ⟨ua, ucap, rfl, _⟩ := hA
  obtain ⟨va, vcap, rfl, _⟩ := hB
  obtain ⟨xa, xcap, rfl, _⟩ := hC
  obtain ⟨ya, ycap, rfl, _⟩ := hD
  obtain ⟨na, hna⟩ : ∃ n, n = A.length := ⟨_, rfl⟩
  obtain ⟨nb, hnb⟩ : ∃ n, n = B.length := ⟨_, rfl⟩
  obtain ⟨nc, hnc⟩ : ∃ n, n = C.length := ⟨_, rfl⟩
  obtain ⟨nd, hnd⟩ : ∃ n, n = D.length := ⟨_, rfl⟩
  obtain ⟨n, hn⟩ : ∃ n, n = L.length := ⟨_, rfl⟩
  have HA2 := Lib.hid hA2
  have HB2 := Lib.hid hB2
  have HC2 := Lib.hid hC2
  have HD2 := Lib.hid hD2
  have HA3 := Lib.hid hA3
  have HB3 := Lib.hid hB3
  have HC3 := Lib.hid hC3
  have HD3 := Lib.hid hD3
  rw [← hn] at hL2 ⊢
  rw [← hna] at HRA hA2 ⊢
  rw [← hnb] at HRB hB2 ⊢
  rw [← hnc] at HRC hC2 ⊢
  rw [← hnd] at HRD hD2 ⊢
  unfold maxLen at hA2 hB2 hC2 hD2 hL2
  have HN := Lib.hid hn
  have HL := Lib.hid hL
  have HL3 := Lib.hid hL3
  clear hn hna hnb hnc hnd hA3 hB3 hC3 hD3 hL hL3
  by_cases hbig : n ≤ 40 ∧ na ≤ 30 ∧ nb ≤ 30 ∧ nc ≤ 30 ∧ nd ≤ 30
  · obtain ⟨b1, b2, b3, b4, b5⟩ := hbig
    have d1 : decide ((40 : Int) < (n : Int)) = false := by simp; omega
    have d2 : decide ((30 : Int) < (na : Int)) = false := by simp; omega
    have d3 : decide ((30 : Int) < (nb : Int)) = false := by simp; omega
    have d4 : decide ((30 : Int) < (nc : Int)) = false := by simp; omega
    have d5 : decide ((30 : Int) < (nd : Int)) = false := by simp; omega
    go_enter Try.func4, Try.ntmps4
    go_wp2_with (go_at_call 27; refine (alive_any _).mono ?_; rintro e w1 ⟨rfl, hb1⟩)
    have HB1 := Lib.hid hb1
    refine (new_any _ _ A B w1 (HRA.out.below hb1) (HRB.out.below hb1) HA3.out HB3.out HA2.out HB2.out).mono ?_
    rintro e W2 ⟨rfl, T2, hb2, z2⟩
    have HB2' := Lib.hid (hb1.trans (hb2.mono hb1.size))
    obtain ⟨MA, hMA⟩ : ∃ M, M = mayM A B := ⟨_, rfl⟩
    obtain ⟨bA, hbA⟩ : ∃ b, b = w1.heap.size := ⟨_, rfl⟩
    rw [← hMA, ← hbA] at T2
    rw [← hbA]
    have T2 := Lib.hid T2
    have Z2 : Hid (bA < W2.heap.size ∧ w.heap.size ≤ bA) := Lib.hid ⟨by omega, by have := hb1.size; omega⟩
    clear hb2 z2 hMA hbA hb1 d1 d2 d3 d4 d5
    go_wp2_with fail
    refine (new_any _ _ C D W2 (HRC.out.below HB2'.out) (HRD.out.below HB2'.out) HC3.out HD3.out HC2.out HD2.out).mono ?_
    rintro e W3 ⟨rfl, T3, hb3, z3⟩
    have HB3' := Lib.hid (HB2'.out.trans (hb3.mono HB2'.out.size))
    obtain ⟨MB, hMB⟩ : ∃ M, M = mayM C D := ⟨_, rfl⟩
    obtain ⟨bB, hbB⟩ : ∃ b, b = W2.heap.size := ⟨_, rfl⟩
    rw [← hMB, ← hbB] at T3
    rw [← hbB]
    have U3 : OptAt W3 bA MA (fun _ => 0) := T2.out.below hb3
    obtain ⟨W4, hW4⟩ : ∃ W4, W4 = W3.alloc (.cells #[.pointer (some ⟨bA, 0, none⟩), .pointer (some ⟨bB, 0, none⟩), .slice none 0 0, .slice none 0 0, .int .i64 0] 49) := ⟨_, rfl⟩
    obtain ⟨l, hl⟩ : ∃ l, l = W3.heap.size := ⟨_, rfl⟩
    have hb4 : Below W3.heap.size W3 W4 := by rw [hW4]; exact below_alloc _ _
    have z4 : W4.heap.size = W3.heap.size + 1 := by rw [hW4]; exact World.size_alloc _ _
    have k4 : W4.heap[l]? = some (.cells #[.pointer (some ⟨bA, 0, none⟩), .pointer (some ⟨bB, 0, none⟩), .slice none 0 0, .slice none 0 0, .int .i64 ((0 : Nat) : Int)] 49 (0, 0)) := by rw [hW4, hl]; exact heap_alloc_new _ _
    obtain ⟨s, hs⟩ : ∃ s, s = W4.heap.size := ⟨_, rfl⟩
    have hz2 := Z2.out
    have hLN : LN w l bA bB s MA MB (fun _ => 0) (fun _ => 0) [] [] 0 (.slice none 0 0) (.slice none 0 0) W4 :=
      ⟨k4, U3.below hb4, T3.below hb4, WQ.nil _ _, WQ.nil _ _, fun _ => by simp, fun _ => by simp, .inl (by unfold blk; rfl), by omega, by omega, by omega, by omega, by omega, by omega, by omega, HB3'.out.trans (hb4.mono HB3'.out.size), by have := HB3'.out.size; omega, by omega, by omega⟩
    have hg := Net.good0 MA MB
    have HLR0 : Hid (LR w l bA bB s MA MB (2 * 0) W4) := Lib.hid ⟨_, _, _, _, _, _, _, hLN, hg.1, by rw [hg.2]; omega, by simp⟩
    have HW4 := Lib.hid hW4.symm
    have HLL := Lib.hid hl.symm
    clear hLN hg k4 z4 hb4 U3 T3 hb3 z3 hMB hbB hW4 hl hs hz2 Z2 T2 HB3' HB2' HB1 HRA HRB HRC HRD
    go_upto_region 6 with fail
    rw [HW4.out, HLL.out]
    clear HW4 HLL
    go_upto_region 7 with fail
    go_loopw [56] (fun i wr => WishR w l bA bB s MA MB n i wr) (fun i _ => n - (intOf i).toNat)
    case atStart => exact ⟨0, by omega, rfl, HLR0.out⟩
    case round =>
      obtain ⟨k, hk, rfl, hlr⟩ := hrel
      have HLR := Lib.hid hlr
      clear hlr HLR0
      by_cases hkn : k < n
      · have hkl : k < L.length := by rw [← HN.out]; exact hkn
        obtain ⟨g, off, rfl, hgw, hcells⟩ := HL.out (by intro e; rw [e] at hkl; simp at hkl)
        obtain ⟨q, hq⟩ : ∃ q, L[k]? = some q := ⟨_, List.getElem?_eq_getElem hkl⟩
        obtain ⟨snd, c, o, fi⟩ := q
        have hco := HL3.out _ (List.mem_of_getElem? hq)
        have hc256 : c < 256 := hco.1
        have ho : o < 256 := hco.2.1
        obtain ⟨d0, d1, d2, d3⟩ := hcells k snd c o fi hq
        have hbw := HLR.out.old
        have d0 := (hbw.cell (p := ⟨g, off + k * 4, none⟩) hgw).trans d0
        have d1 := (hbw.cell (p := ⟨g, off + k * 4 + 1, none⟩) hgw).trans d1
        have d2 := (hbw.cell (p := ⟨g, off + k * 4 + 2, none⟩) hgw).trans d2
        have d3 := (hbw.cell (p := ⟨g, off + k * 4 + 3, none⟩) hgw).trans d3
        obtain ⟨f, hf, hf16, _⟩ := Mask.mask_nat fi 15 4 16 (by omega) (by decide) (by decide)
        have hf : bits .and .i64 fi 15 = (f : Int) := hf
        have hkni : (k : Int) < (n : Int) := by omega
        have hb7 := below_alloc wr (.cells #[.bool snd, .int .u8 c, .int .u8 o, .int .i64 fi] 51)
        have hk7 := heap_alloc_new wr (.cells #[.bool snd, .int .u8 c, .int .u8 o, .int .i64 fi] 51)
        obtain ⟨W7, hW7⟩ : ∃ W7, W7 = wr.alloc (.cells #[.bool snd, .int .u8 c, .int .u8 o, .int .i64 fi] 51) := ⟨_, rfl⟩
        obtain ⟨ow, how⟩ : ∃ ow, ow = wr.heap.size := ⟨_, rfl⟩
        rw [← hW7] at hb7 hk7
        rw [← how] at hk7
        have R7 := Lib.hid (HLR.out.below hb7)
        have K7 := Lib.hid hk7
        have HOL : Hid (ow ≠ l ∧ ow ≠ bA ∧ ow ≠ bB ∧ l ≠ bA ∧ l ≠ bB) := Lib.hid (by
          obtain ⟨_, _, _, _, _, _, _, h⟩ := HLR.out
          have h1 := h.ln.hl; have h2 := h.ln.hA; have h3 := h.ln.hB; have h4 := h.ln.sz; have h5 := h.ln.nA; have h6 := h.ln.nB
          exact ⟨by omega, by omega, by omega, h5, h6⟩)
        have HW7 := Lib.hid hW7.symm
        have HOW := Lib.hid how.symm
        have HHF := Lib.hid hf
        obtain ⟨_, _, _, f3⟩ := wish_cells hk7
        clear hb7 hk7 hW7 how hcells hq hco hbw hkl HLR hf
        go_upto_region 9 with fail
        rw [HW7.out, HOW.out]
        clear d0 d1 d2 d3
        have hf := HHF.out
        go_upto_region 10 with fail
        clear f3 hf
        go_loopw [63] (fun i wx => ComeR w l bA bB s MA MB (2 * k) f ow #[.bool snd, .int .u8 c, .int .u8 o, .int .i64 fi] i wx) (fun i _ => f - (intOf i).toNat)
        case atStart => exact ⟨0, by omega, rfl, R7.out, K7.out⟩
        case round =>
          obtain ⟨j, hj, rfl, hlr, hkx⟩ := hrel
          have HR := Lib.hid hlr
          have HK := Lib.hid hkx
          clear hlr hkx R7 K7
          by_cases hjf : j < f
          · have hjfi : (j : Int) < (f : Int) := by omega
            have hj16 : j ≤ 16 := by omega
            clear hjf
            have hp01 : bits .and .i64 (j : Int) 1 = 0 ∨ bits .and .i64 (j : Int) 1 = 1 := by
              obtain ⟨p, hp, hp2, _⟩ := Mask.mask_nat (j : Int) 1 1 2 (by omega) (by decide) (by decide)
              have hp : bits .and .i64 (j : Int) 1 = (p : Int) := hp
              have : p = 0 ∨ p = 1 := by omega
              rcases this with rfl | rfl
              · exact .inl hp
              · exact .inr hp
            have HP01 := Lib.hid hp01
            clear hp01
            rcases HP01.out with hp | hp
            · have HP := Lib.hid hp
              clear hp HP01
              go_wp2_with fail
              rw [HP.out]
              refine (comeA_any HR.out (by omega)).mono ?_
              rintro e W8 (⟨rfl, h8, _, t8⟩ | ⟨rfl, rfl, _⟩)
              · have H8 := Lib.hid h8
                have K8 := Lib.hid ((t8 ow 1 (c : Int) HOL.out.1 HOL.out.2.1 (wish_cells HK.out).2.1).trans HK.out)
                clear h8 t8
                go_wp2_with fail
                go_roundw
                case rel => exact ⟨j + 1, by omega, by go_num, H8.out, K8.out⟩
                case measure => simp [intOf]; omega
              · go_wp2_with fail
                go_roundw
                case rel => exact ⟨j + 1, by omega, by go_num, HR.out, HK.out⟩
                case measure => simp [intOf]; omega
            · have HP := Lib.hid hp
              clear hp HP01
              go_wp2_with fail
              rw [HP.out]
              refine (comeB_any HR.out (by omega)).mono ?_
              rintro e W8 (⟨rfl, h8, _, t8⟩ | ⟨rfl, rfl, _⟩)
              · have H8 := Lib.hid h8
                have K8 := Lib.hid ((t8 ow 1 (c : Int) HOL.out.1 HOL.out.2.2.1 (wish_cells HK.out).2.1).trans HK.out)
                clear h8 t8
                go_wp2_with fail
                go_roundw
                case rel => exact ⟨j + 1, by omega, by go_num, H8.out, K8.out⟩
                case measure => simp [intOf]; omega
              · go_wp2_with fail
                go_roundw
                case rel => exact ⟨j + 1, by omega, by go_num, HR.out, HK.out⟩
                case measure => simp [intOf]; omega
          · obtain rfl : f = j := by omega
            clear hjf hj
            obtain ⟨c0, c1⟩ := HR.out.cells
            obtain ⟨f0, f1, f2, f3⟩ := wish_cells HK.out
            have R1 : Hid (LR w l bA bB s MA MB (2 * k) wr.drew) := Lib.hid (HR.out.below (Below.drew (Below.refl _ _)))
            have SA1 : Hid (SW l 0 bA ow c o wr.drew) := Lib.hid ⟨c0, f1, f2⟩
            have SB1 : Hid (SW l 1 bB ow c o wr.drew) := Lib.hid ⟨c1, f1, f2⟩
            have hk80 : 2 * k + 2 ≤ 1000 := by omega
            cases snd
            · go_upto_region 17 with fail
              first
              | (go_region_held3 (fun Z => Z.cell? ⟨l, 0, none⟩ = some (.pointer (some ⟨bA, 0, none⟩)) ∧ Z.cell? ⟨ow, 1, none⟩ = some (.int .u8 c) ∧ Z.cell? ⟨ow, 2, none⟩ = some (.int .u8 o))
                  (with_reducible (first | assumption | exact SA1.out | exact SA2.out))
                  (first
                    | (go_at_call 30; refine (wantA_any R1.out c o (by omega) ho).mono ?_; rintro e W9 ⟨p, er, rfl, h9, t9⟩; have H9 := Lib.hid h9; have SA2 : Hid (SW l 0 bA ow c o W9) := Lib.hid ⟨H9.out.cells, (cell_block (t9.block ow (World.block_lt_of_cell? _ ⟨ow, 1, none⟩ SA1.out.2.1) HOL.out.2.1) 1).trans SA1.out.2.1, (cell_block (t9.block ow (World.block_lt_of_cell? _ ⟨ow, 1, none⟩ SA1.out.2.1) HOL.out.2.1) 2).trans SA1.out.2.2⟩; clear h9 t9)))
              | fail
              all_goals
                go_wp2_with fail
                refine (sendA_any H9.out hk80).mono ?_
                rintro e W10 ⟨rfl, h10⟩
                have H10 := Lib.hid h10
                clear h10
                go_wp2_with fail
                go_roundw
                case rel => exact ⟨k + 1, by omega, by go_num, H10.out⟩
                case measure => simp [intOf]; omega
            · go_upto_region 17 with fail
              first
              | (go_region_held3 (fun Z => Z.cell? ⟨l, 1, none⟩ = some (.pointer (some ⟨bB, 0, none⟩)) ∧ Z.cell? ⟨ow, 1, none⟩ = some (.int .u8 c) ∧ Z.cell? ⟨ow, 2, none⟩ = some (.int .u8 o))
                  (with_reducible (first | assumption | exact SB1.out | exact SB2.out))
                  (first
                    | (go_at_call 30; refine (wantB_any R1.out c o (by omega) ho).mono ?_; rintro e W9 ⟨p, er, rfl, h9, t9⟩; have H9 := Lib.hid h9; have SB2 : Hid (SW l 1 bB ow c o W9) := Lib.hid ⟨H9.out.cells, (cell_block (t9.block ow (World.block_lt_of_cell? _ ⟨ow, 1, none⟩ SB1.out.2.1) HOL.out.2.2.1) 1).trans SB1.out.2.1, (cell_block (t9.block ow (World.block_lt_of_cell? _ ⟨ow, 1, none⟩ SB1.out.2.1) HOL.out.2.2.1) 2).trans SB1.out.2.2⟩; clear h9 t9)))
              | fail
              all_goals
                go_wp2_with fail
                refine (sendB_any H9.out hk80).mono ?_
                rintro e W10 ⟨rfl, h10⟩
                have H10 := Lib.hid h10
                clear h10
                go_wp2_with fail
                go_roundw
                case rel => exact ⟨k + 1, by omega, by go_num, H10.out⟩
                case measure => simp [intOf]; omega
      · obtain rfl : n = k := by omega
        clear hkn hk
        go_upto_region 20 with fail
        go_loopw [] (fun wr => LR w l bA bB s MA MB (2 * n) wr) (fun wr => lm l (2 * n) wr)
        case atStart => exact HLR.out
        case round =>
          have HL2 := Lib.hid hrel
          clear hrel HLR
          go_wp2_with fail
          refine (comeA_any HL2.out (by omega)).mono ?_
          rintro e W8 (⟨rfl, h8, m8, _⟩ | ⟨rfl, rfl, ra⟩)
          · have H8 := Lib.hid h8
            have M8 := Lib.hid m8
            clear h8 m8
            obtain ⟨cnt, hc1, hc2⟩ := H8.out.count
            have hcnt : decide (2 * (n : Int) < (cnt : Int)) = false := by simp; omega
            clear hc1
            go_wp2_with fail
            go_roundw
            case rel => exact H8.out
            case measure => exact M8.out
          · have RA := Lib.hid ra
            clear ra
            go_wp2_with fail
            refine (comeB_any HL2.out (by omega)).mono ?_
            rintro e W8 (⟨rfl, h8, m8, _⟩ | ⟨rfl, rfl, rb⟩)
            · have H8 := Lib.hid h8
              have M8 := Lib.hid m8
              clear h8 m8
              obtain ⟨cnt, hc1, hc2⟩ := H8.out.count
              have hcnt : decide (2 * (n : Int) < (cnt : Int)) = false := by simp; omega
              clear hc1
              go_wp2_with fail
              go_roundw
              case rel => exact H8.out
              case measure => exact M8.out
            · obtain ⟨SA, SB, cnt, qA, qB, hcm, hln, hrest⟩ := HL2.out.rest RA.out rb
              have HR0 := Lib.hid hrest
              have HLN := Lib.hid hln
              clear rb hln hrest HL2 RA
              go_upto_region 24 with fail
              go_loopw [18] (fun i wr => LastR w l bA bB s MA MB SA SB cnt qA qB i wr) (fun i _ => 256 - (intOf i).toNat)
              case atStart => exact ⟨0, by omega, rfl, HLN.out⟩
              case round =>
                obtain ⟨o, ho, rfl, hln⟩ := hrel
                have HQ := Lib.hid hln
                clear hln HLN
                obtain ⟨c0, c1, _, _, c4, _⟩ := HQ.out.cells
                by_cases hon : o < 256
                · have hoi : (o : Int) < 256 := by omega
                  have ho0 : (0 : Int) ≤ (o : Int) := Int.natCast_nonneg _
                  have hwr : IntKind.u8.wrap (o : Int) = o := by show ((o : Int)) % 256 = o; omega
                  obtain ⟨e1, _⟩ := HR0.out true o hon
                  obtain ⟨e2, _⟩ := HR0.out false o hon
                  obtain ⟨x1, hx1⟩ : ∃ x1, x1 = stOf SA true o := ⟨_, rfl⟩
                  obtain ⟨x2, hx2⟩ : ∃ x2, x2 = stOf SA false o := ⟨_, rfl⟩
                  have E1 : Hid (stOf SB false o = x1) := Lib.hid (by rw [hx1]; exact e1.symm)
                  have E2 : Hid (stOf SB true o = x2) := Lib.hid (by rw [hx2]; exact e2.symm)
                  have X1 := Lib.hid hx1.symm
                  have X2 := Lib.hid hx2.symm
                  have HON := Lib.hid hon
                  clear e1 e2 hx1 hx2 hon c4
                  go_upto_region 27 with fail
                  go_quiet (first
                    | (go_at_call 32; with_reducible first | exact state_quiet HQ.out.oa true o HON.out x1 X1.out _ | exact state_quiet HQ.out.ob false o HON.out x1 E1.out _ | exact state_quiet HQ.out.oa false o HON.out x2 X2.out _ | exact state_quiet HQ.out.ob true o HON.out x2 E2.out _))
                  go_wp2_with fail
                  go_roundw
                  case rel => exact ⟨o + 1, by have := HON.out; omega, by go_num, HQ.out.below (below_drewN (Below.refl _ _) nq)⟩
                  case measure => have := HON.out; simp [intOf]; omega
                · obtain rfl : o = 256 := by omega
                  have hbA : busyB SA = false := by
                    unfold busyB
                    rw [bz_false (S := SA) (off := 256) (fun k hk => (HR0.out true k hk).2), bz_false (S := SA) (off := 768) (fun k hk => (HR0.out false k hk).2)]
                    rfl
                  have hbB : busyB SB = false := by
                    unfold busyB
                    rw [bz_false (S := SB) (off := 256) (fun k hk => by
                      obtain ⟨a1, a2⟩ := HR0.out false k hk
                      have a1 : SA (ixb false k) = SB (256 + k) := a1
                      omega), bz_false (S := SB) (off := 768) (fun k hk => by
                      obtain ⟨a1, a2⟩ := HR0.out true k hk
                      have a1 : SA (ixb true k) = SB (768 + k) := a1
                      omega)]
                    rfl
                  have HBA := Lib.hid hbA
                  have HBB := Lib.hid hbB
                  have hcnt : decide ((cnt : Int) ≤ 2 * (n : Int)) = true := by simp; omega
                  clear hbA hbB hon ho
                  go_wp2_with fail
                  refine (busy_any HQ.out.oa).mono ?_
                  rw [HBA.out]
                  rintro e W' ⟨rfl, rfl⟩
                  go_wp2_with fail
                  refine (busy_any HQ.out.ob).mono ?_
                  rw [HBB.out]
                  rintro e W' ⟨rfl, rfl⟩
                  go_wp2_with fail
                  go_ret
                  exact ⟨rfl, HQ.out.old⟩
  · have hcase : 40 < n ∨ (n ≤ 40 ∧ 30 < na) ∨ (n ≤ 40 ∧ na ≤ 30 ∧ 30 < nb) ∨ (n ≤ 40 ∧ na ≤ 30 ∧ nb ≤ 30 ∧ 30 < nc) ∨ (n ≤ 40 ∧ na ≤ 30 ∧ nb ≤ 30 ∧ nc ≤ 30 ∧ 30 < nd) := by omega
    clear hbig
    rcases hcase with h | ⟨h, h'⟩ | ⟨h, h', h2⟩ | ⟨h, h', h2, h3⟩ | ⟨h, h', h2, h3, h4⟩
    · have d1 : decide ((40 : Int) < (n : Int)) = true := by simp; omega
      go_enter Try.func4, Try.ntmps4
      go_wp2_with (go_at_call 27; refine (alive_any _).mono ?_; rintro e w1 ⟨rfl, hb1⟩)
      go_ret
      exact ⟨rfl, hb1⟩
    · have d1 : decide ((40 : Int) < (n : Int)) = false := by simp; omega
      have d2 : decide ((30 : Int) < (na : Int)) = true := by simp; omega
      go_enter Try.func4, Try.ntmps4
      go_wp2_with (go_at_call 27; refine (alive_any _).mono ?_; rintro e w1 ⟨rfl, hb1⟩)
      go_ret
      exact ⟨rfl, hb1⟩
    · have d1 : decide ((40 : Int) < (n : Int)) = false := by simp; omega
      have d2 : decide ((30 : Int) < (na : Int)) = false := by simp; omega
      have d3 : decide ((30 : Int) < (nb : Int)) = true := by simp; omega
      go_enter Try.func4, Try.ntmps4
      go_wp2_with (go_at_call 27; refine (alive_any _).mono ?_; rintro e w1 ⟨rfl, hb1⟩)
      go_ret
      exact ⟨rfl, hb1⟩
    · have d1 : decide ((40 : Int) < (n : Int)) = false := by simp; omega
      have d2 : decide ((30 : Int) < (na : Int)) = false := by simp; omega
      have d3 : decide ((30 : Int) < (nb : Int)) = false := by simp; omega
      have d4 : decide ((30 : Int) < (nc : Int)) = true := by simp; omega
      go_enter Try.func4, Try.ntmps4
      go_wp2_with (go_at_call 27; refine (alive_any _).mono ?_; rintro e w1 ⟨rfl, hb1⟩)
      go_ret
      exact ⟨rfl, hb1⟩
    · have d1 : decide ((40 : Int) < (n : Int)) = false := by simp; omega
      have d2 : decide ((30 : Int) < (na : Int)) = false := by simp; omega
      have d3 : decide ((30 : Int) < (nb : Int)) = false := by simp; omega
      have d4 : decide ((30 : Int) < (nc : Int)) = false := by simp; omega
      have d5 : decide ((30 : Int) < (nd : Int)) = true := by simp; omega
      go_enter Try.func4, Try.ntmps4
      go_wp2_with (go_at_call 27; refine (alive_any _).mono ?_; rintro e w1 ⟨rfl, hb1⟩)
      go_ret
      exact ⟨rfl, hb1⟩
end Go.Proofs.Ytkolhjglehnigaa.Que
