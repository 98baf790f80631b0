/-
  The walk of TalkPlays.
-/
import Derived.Test.YtimidoaafllnkaaRTalkF
import Derived.Test.YtimidoaafllnkaaOpenFB
import Derived.Deep.DeepCutAuto
import Derived.Deep.Cut
namespace Go.Proofs.Ytimidoaafllnkaa.Talk
open Go.RowKit Base Opt Iac
set_option linter.unusedVariables false
set_option linter.unusedSimpArgs false

set_option maxRecDepth 100000 in
set_option maxHeartbeats 64000000 in
theorem talkPlays_law {w : World} (s : ByteArray) (hsm : s.size ≤ maxLen) (ext : Bool) (v : Value) (L : List Ev) (hL : EvsAt w v L ∧ L.length ≤ maxLen ∧ ∀ e ∈ L, Open.EvOk e) (lv : Int) (hlv : (Lit.int .i64 lv).wf = true) :
    Calls Try.prog 4 #[.string s, .bool ext, v, .int .i64 lv] w fun e W' => e = .returned (.bool true) ∧ Below w.heap.size w W' := by
  obtain ⟨hE, hLm, hOk⟩ := hL
  have HE := Lib.hid hE
  have HLM := Lib.hid hLm
  have HOK := Lib.hid hOk
  have HALI := Lib.hid (talk_alive w)
  obtain ⟨FW, hFW⟩ : ∃ B, B = fewB L := ⟨_, rfl⟩
  have HFW := Lib.hid hFW
  have h0 : (0 : Int) ≤ s.size := Int.natCast_nonneg _
  have hsz : (s.size : Int) ≤ 9223372036854775807 := by unfold maxLen at hsm; omega
  clear hE hLm hOk hlv
  by_cases hf : FW = true
  rotate_left
  · obtain rfl : FW = false := by simpa using hf
    clear hf hFW hsm
    go_enter Try.func4, Try.ntmps4
    go_wp2_with fail
    refine HALI.out.mono ?_
    rintro e W1 ⟨rfl, b1⟩
    have HB1 := Lib.hid b1
    clear b1
    go_wp2_with fail
    refine (few_any (evs_below HE.out HB1.out) HLM.out).mono ?_
    rw [← HFW.out]
    rintro e W2 ⟨rfl, b2⟩
    have HB2 := Lib.hid (HB1.out.trans (b2.mono HB1.out.size))
    clear b2 HB1
    go_wp2_with fail
    go_ret
    exact ⟨rfl, HB2.out⟩
  subst hf
  by_cases hbig : (100 : Int) < s.size
  · clear hFW hsm
    go_enter Try.func4, Try.ntmps4
    go_wp2_with fail
    refine HALI.out.mono ?_
    rintro e W1 ⟨rfl, b1⟩
    have HB1 := Lib.hid b1
    clear b1
    go_wp2_with fail
    refine (few_any (evs_below HE.out HB1.out) HLM.out).mono ?_
    rw [← HFW.out]
    rintro e W2 ⟨rfl, b2⟩
    have HB2 := Lib.hid (HB1.out.trans (b2.mono HB1.out.size))
    clear b2 HB1
    go_wp2_with fail
    go_ret
    exact ⟨rfl, HB2.out⟩
  have hs100 : s.size ≤ 100 := by omega
  have hfew : L.all fewE = true ∧ L.length ≤ 60 := by
    have := hFW.symm
    unfold fewB at this
    rw [Bool.and_eq_true] at this
    exact ⟨this.1, of_decide_eq_true this.2⟩
  have HL60 := Lib.hid hfew.2
  have HNEW : Hid (∀ w, Calls Try.prog 25 #[.string s, .bool ext] w (NewK (cleaned s) ext w)) := Lib.hid fun w => talk_new s ext w hsm
  have HRN := Lib.hid fun w => rnew_any s ext w (by omega)
  have hnm255 := cleaned_plain s
  have hnms := cleaned_size s
  have HBYT := Lib.hid (ours_bytes ext)
  obtain ⟨A, hA⟩ : ∃ A, A = oursL ext := ⟨_, rfl⟩
  have hAm : A.length ≤ 4 := by rw [hA]; cases ext <;> simp [oursL]
  unfold NewK at HNEW
  rw [← hA] at HNEW HRN HBYT
  obtain ⟨B, hBd⟩ : ∃ B : List Int, B = [0, 25] := ⟨_, rfl⟩
  have hBm : B.length = 2 := by rw [hBd]; rfl
  have HBYB : Hid (IsBytes B) := Lib.hid (by rw [hBd]; exact theirs_bytes)
  rw [← hBd] at HNEW HRN
  obtain ⟨M, hM⟩ : ∃ M, M = mayM A B := ⟨_, rfl⟩
  rw [← hM] at HNEW
  have HM := Lib.hid hM
  obtain ⟨nm, hnm⟩ : ∃ nm, nm = cleaned s := ⟨_, rfl⟩
  rw [← hnm] at hnm255 hnms HNEW HRN
  have H255 := Lib.hid hnm255
  have HNS : Hid (nm.size ≤ 1000) := Lib.hid (by omega)
  have HAM : Hid (A.length ≤ maxLen) := Lib.hid (by unfold maxLen; omega)
  have HBM : Hid (B.length ≤ maxLen) := Lib.hid (by unfold maxLen; omega)
  obtain ⟨ev, ecap, rfl, hrow⟩ := id HE.out
  have HR := Lib.hid hrow
  obtain ⟨n, hn⟩ : ∃ n, n = L.length := ⟨_, rfl⟩
  have HN := Lib.hid hn
  have hn60 : n ≤ 60 := by rw [hn]; exact hfew.2
  rw [← hn] at HE ⊢
  clear hFW hsm hfew hnm255 hnms hA hAm hBd hBm hM hnm hrow hn
  go_enter Try.func4, Try.ntmps4
  go_wp2_with fail
  refine HALI.out.mono ?_
  rintro e W1 ⟨rfl, b1⟩
  have HB1 := Lib.hid b1
  clear b1
  go_wp2_with fail
  refine (few_any (evs_below HE.out HB1.out) HLM.out).mono ?_
  rw [← HFW.out]
  rintro e W2 ⟨rfl, b2⟩
  have HB2 := Lib.hid (HB1.out.trans (b2.mono HB1.out.size))
  clear b2 HB1
  go_wp2_with fail
  refine (HNEW.out W2).mono ?_
  rintro e W3 ⟨b, rfl, ht3, b3, hlo3⟩
  have HB3 := Lib.hid (HB2.out.trans (b3.mono HB2.out.size))
  have HT3 := Lib.hid ht3
  have HLO := Lib.hid (Nat.le_trans HB2.out.size hlo3)
  clear ht3 b3 hlo3 HNEW HB2
  go_wp2_with fail
  refine (HRN.out W3).mono ?_
  rintro e W4 ⟨ua, un, uc, va, vn, vc, rfl, hru, hrv, b4⟩
  have hlq : LQ w b W4.heap.size nm M a0 false false (.slice none 0 0) (.slice ua un uc) (.slice va vn vc) [] A B (W4.alloc (.cells #[.string nm, .slice none 0 0, .slice ua un uc, .slice va vn vc, .bool false] 48)) := by
    have t := below_alloc W4 (.cells #[.string nm, .slice none 0 0, .slice ua un uc, .slice va vn vc, .bool false] 48)
    have ob := HB3.out.trans (b4.mono HB3.out.size)
    have hlt := HT3.out.lt
    exact ⟨(HT3.out.below b4).below t, heap_alloc_new W4 _, ⟨rfl, .inl ⟨rfl, rfl⟩⟩, hru.below t, hrv.below t, by have := b4.size; omega, ob.trans (t.mono ob.size), HLO.out⟩
  have HUN : Hid (un = A.length) := Lib.hid (by obtain ⟨_, _, e, _⟩ := hru; injection e)
  have HVN : Hid (vn = B.length) := Lib.hid (by obtain ⟨_, _, e, _⟩ := hrv; injection e)
  have HLQ := Lib.hid hlq
  clear hru hrv b4 hlq HRN HB3 HT3
  go_upto_region 7 with fail
  obtain ⟨W5, hW5⟩ : ∃ W5, W5 = W4.alloc (.cells #[.string nm, .slice none 0 0, .slice ua un uc, .slice va vn vc, .bool false] 48) := ⟨_, rfl⟩
  obtain ⟨X, hX⟩ : ∃ X, X = W4.heap.size := ⟨_, rfl⟩
  rw [← hW5, ← hX] at HLQ ⊢
  clear hW5 hX
  go_loopw [38] (fun i wr => ∃ (k : Nat) (S : Nat → Nat) (ndp ndr : Bool) (xa : Option Addr) (xn xc : Nat) (R : List One), k ≤ n ∧ i = .int .i64 k ∧ Hid (LQ w b X nm M S ndp ndr (.slice xa xn xc) (.slice ua un uc) (.slice va vn vc) R A B wr) ∧ Hid (Like R S) ∧ Hid (ndr = (ndp && typeOn S)) ∧ Hid (R.length ≤ 2 * k)) (fun i _ => n - (intOf i).toNat)
  case atStart => exact ⟨0, a0, false, false, none, 0, 0, [], by omega, rfl, HLQ, Lib.hid Like.nil, Lib.hid rfl, Lib.hid (by simp)⟩
  case round =>
    obtain ⟨k, S, ndp, ndr, xa, xn, xc, R, hk, rfl, HQ, HLK, HND, HRL⟩ := hrel
    clear HLQ
    by_cases hkn : k < n
    · have hkni : (k : Int) < (n : Int) := by omega
      have hk0 : (0 : Int) ≤ (k : Int) := Int.natCast_nonneg _
      obtain ⟨q, hqq⟩ : ∃ q, L[k]? = some q := ⟨_, List.getElem?_eq_getElem (by rw [← HN.out]; exact hkn)⟩
      obtain ⟨g, off, rfl, hg, hc⟩ := HR.out (by intro e; rw [e] at hqq; simp at hqq)
      obtain ⟨eu, q0, q1, q2, q3, hu⟩ := hc k q hqq
      have hok := HOK.out q (List.mem_of_getElem? hqq)
      have d0 := (HQ.out.old.cell (p := ⟨g, off + k * 4, none⟩) hg).trans q0
      have d1 := (HQ.out.old.cell (p := ⟨g, off + k * 4 + 1, none⟩) hg).trans q1
      have d2 := (HQ.out.old.cell (p := ⟨g, off + k * 4 + 2, none⟩) hg).trans q2
      have d3 := (HQ.out.old.cell (p := ⟨g, off + k * 4 + 3, none⟩) hg).trans q3
      clear q0 q1 q2 q3
      obtain ⟨ea, ec, hue, _⟩ := id hu
      subst hue
      obtain ⟨kd, code, po, Bq⟩ := q
      obtain ⟨_, hcode, hopt, _, _⟩ := hok
      simp only at d0 d1 d2 d3 hu hcode hopt
      obtain ⟨on, rfl⟩ : ∃ on : Nat, po = on := ⟨po.toNat, by have := hopt.1; omega⟩
      have hon : on < 256 := by have := hopt.2; omega
      obtain ⟨en, hen⟩ : ∃ en, en = Bq.length := ⟨_, rfl⟩
      rw [← hen] at d3 hu
      have HEV := Lib.hid hu
      have HCD : Hid (0 ≤ code ∧ code < 256) := Lib.hid hcode
      have HONB := Lib.hid hon
      have hal := below_alloc wr (.cells #[.int .i64 kd, .int .u8 code, .int .u8 (on : Nat), .slice ea en ec] 26)
      have hnw := heap_alloc_new wr (.cells #[.int .i64 kd, .int .u8 code, .int .u8 (on : Nat), .slice ea en ec] 26)
      obtain ⟨V1, hV1⟩ : ∃ V1, V1 = wr.alloc (.cells #[.int .i64 kd, .int .u8 code, .int .u8 (on : Nat), .slice ea en ec] 26) := ⟨_, rfl⟩
      obtain ⟨eb, heb⟩ : ∃ eb, eb = wr.heap.size := ⟨_, rfl⟩
      rw [← hV1] at hal hnw
      rw [← heb] at hnw
      have hxlt := lt_of_block HQ.out.box
      have HF1 : Hid (FQ w b X nm M S ndp ndr (.slice xa xn xc) (.slice ua un uc) (.slice va vn vc) R A B eb #[.int .i64 kd, .int .u8 code, .int .u8 (on : Nat), .slice ea en ec] (.slice none 0 0) (.slice none 0 0) [] [] V1) := Lib.hid ⟨HQ.out.below hal, hnw, by omega, RowOf.nil _ _, RowOf.nil _ _⟩
      have HV1 := Lib.hid hV1.symm
      have HEB := Lib.hid heb.symm
      clear hqq hc hg hu hcode hopt hon hen hal hnw hV1 heb hxlt HQ
      go_upto_region 9 with fail
      rw [HV1.out, HEB.out]
      clear d0 d1 d2 d3
      obtain ⟨_, _, _, _, _, d0, d1, d2, d3⟩ := HF1.out.s9
      obtain ⟨T, hT⟩ : ∃ T, T = takeR nm M S ndp kd code on Bq := ⟨_, rfl⟩
      obtain ⟨T2, hT2⟩ : ∃ T, T = rTakeR nm A B R ndr kd code on Bq := ⟨_, rfl⟩
      have hlike := Like.take HLK.out nm H255.out A B HBYT.out HBYB.out ndp ndr HND.out kd code on HONB.out Bq
      rw [← HM.out, ← hT, ← hT2] at hlike
      obtain ⟨S2, ndp2, Y⟩ := T
      obtain ⟨R2, nd2, Y2⟩ := T2
      simp only at hlike
      obtain ⟨hl1, hl2, hl3, hl4⟩ := hlike
      have hYY : Y2 = Y := hl3
      subst hYY
      have HT2 := Lib.hid hT2.symm
      have HTK := Lib.hid (take_any kd code on HONB.out (.slice ea en ec) Bq (HEV.out.below HF1.out.lq.old) HF1.out.lq.tk HLK.out.le HNS.out)
      rw [← hT] at HTK
      have HLK2 := Lib.hid hl1
      have HND2 := Lib.hid hl2
      have HRL2 : Hid (R2.length ≤ 2 * k + 1) := Lib.hid (by have := HRL.out; omega)
      have HYL : Hid (Y2.length ≤ maxLen) := Lib.hid (by rw [show Y2 = (rTakeR nm A B R ndr kd code on Bq).2.2 by rw [← hT2]]; exact rTake_len nm HNS.out A B R ndr kd code on Bq)
      clear hT hT2 hl1 hl2 hl3 hl4
      go_wp2_with fail
      refine HTK.out.mono ?_
      rintro e V2 ⟨pg, rfl, hpg, hk2, t2⟩
      have hf2 := HF1.out.talk t2 hk2
      have HF2 : Hid (FQ w b X nm M S2 ndp2 ndr (.slice xa xn xc) (.slice ua un uc) (.slice va vn vc) R A B eb #[.int .i64 kd, .int .u8 code, .int .u8 (on : Nat), .slice ea en ec] pg (.slice none 0 0) Y2 [] V2) := Lib.hid ⟨hf2.lq, hf2.ev, hf2.hx, hpg.row, RowOf.nil _ _⟩
      clear hpg hk2 t2 hf2 HTK HF1 d0 d1 d2 d3
      obtain ⟨c0, c1, c2, c3, c4, d0, d1, d2, d3⟩ := HF2.out.s9
      have hzero := (zero_of_info info_rt).1
      go_upto_region 10 with fail
      clear c0 c1 c2 c3 c4 d0 d1 d2 d3
      have HR200 : Hid (R.length ≤ 200) := Lib.hid (by have := HRL.out; omega)
      have HST : Hid (∀ ours, stL R ours on ≤ 5) := Lib.hid fun ours => HLK.out.le5 ours on
      go_cut [14, 15] (fun y pw wx => Hid (Cut10 w b X nm M S2 ndp2 ndr nd2 (.slice xa xn xc) (.slice ua un uc) (.slice va vn vc) R R2 A B eb #[.int .i64 kd, .int .u8 code, .int .u8 (on : Nat), .slice ea en ec] pg Y2 Y2 y pw wx))
      case first =>
        have HF0 := Lib.hid (HF2.out.below (Below.refl _ _).drew)
        obtain ⟨Z0, hZ0⟩ : ∃ Y, Y = V2.drew := ⟨_, rfl⟩
        refine wp_region_held_drew (S := (fun Z => Z.cell? ⟨X, 0, none⟩ = some (.string nm) ∧ Z.cell? ⟨X, 1, none⟩ = some (.slice xa xn xc) ∧ Z.cell? ⟨X, 2, none⟩ = some (.slice ua un uc) ∧ Z.cell? ⟨X, 3, none⟩ = some (.slice va vn vc) ∧ Z.cell? ⟨X, 4, none⟩ = some (.bool ndr) ∧ Z.cell? ⟨eb, 0, none⟩ = some (.int .i64 kd) ∧ Z.cell? ⟨eb, 1, none⟩ = some (.int .u8 code) ∧ Z.cell? ⟨eb, 2, none⟩ = some (.int .u8 (on : Nat)) ∧ Z.cell? ⟨eb, 3, none⟩ = some (.slice ea en ec))) (by kernel_rfl) (HF2.out.below (Below.refl _ _).drew).s9 (fun hHeld => ?_)
        rw [← hZ0] at HF0 hHeld ⊢
        have HOB0 : Hid (OB Z0 Z0) := Lib.hid (Below.refl _ _)
        clear hZ0 HF2
        refine wpAnyH_take (i := 0) (oi := { dst := some 47, op := Op.load 48 (Operand.tmp 10), type := 48, pos := "law.go:54", after := #[], guard := none }) (v := ?_) rfl (by kernel_rfl) (by kernel_rfl) (by kernel_rfl) (fun _ _ _ h => h) (Or.inl ⟨by rfl, ?_⟩) (by assumption) ?_
        rotate_left
        focus (intro w hSw; (try dsimp only at hSw); go_simp; try (with_reducible rfl))
        try simp only [Act.put, List.setIfInBounds_toArray, List.set_cons_zero, List.set_cons_succ]
        refine wpAnyH_take (i := 1) (oi := { dst := some 48, op := Op.load 26 (Operand.tmp 12), type := 26, pos := "law.go:54", after := #[], guard := none }) (v := ?_) rfl (by kernel_rfl) (by kernel_rfl) (by kernel_rfl) (fun _ _ _ h => h) (Or.inl ⟨by rfl, ?_⟩) (by assumption) ?_
        rotate_left
        focus (intro w hSw; (try dsimp only at hSw); go_simp; try (with_reducible rfl))
        try simp only [Act.put, List.setIfInBounds_toArray, List.set_cons_zero, List.set_cons_succ]
        refine wpAnyH_ready (rs := [2, 7]) (by kernel_rfl) (by simp) (AllReadyH.cons (o := { dst := some 49, op := Op.call { callee := Callee.value (Operand.func 29), args := #[Operand.tmp 48], argTypes := #[26] }, type := 32, pos := "law.go:54", after := #[{ on := 1, ground := Ground.data }], guard := none }) rfl (fun K hK => ?_) (AllReadyH.cons (o := { dst := some 14, op := Op.alloc 48, type := 0, pos := "law.go:54", after := #[], guard := none }) rfl (fun K hK => ?_) AllReadyH.nil))
        · rw [if_pos (by rfl)]
          go_simp
          (go_at_call 29; refine (tas_any kd code on ea en ec _).mono ?_; rintro e Z1 ⟨rfl, t0⟩)
          go_wp2_with fail
          refine hK.out _ _ (HF0.out.below (HOB0.out.below t0)).s9 (fun hHeld => ?_)
          clear hK K
          try simp only [Act.put, List.setIfInBounds_toArray, List.set_cons_zero, List.set_cons_succ]
          have HOB1 := Lib.hid (HOB0.out.below t0)
          clear HOB0
          clear t0
          refine wpAnyH_ready (rs := [3, 7]) (by kernel_rfl) (by simp) (AllReadyH.cons (o := { dst := some 50, op := Op.call { callee := Callee.value (Operand.func 28), args := #[Operand.tmp 47, Operand.tmp 49], argTypes := #[48, 32] }, type := 51, pos := "law.go:54", after := #[{ on := 0, ground := Ground.data }, { on := 2, ground := Ground.data }, { on := 2, ground := Ground.chain }], guard := none }) rfl (fun K hK => ?_) (AllReadyH.cons (o := { dst := some 14, op := Op.alloc 48, type := 0, pos := "law.go:54", after := #[], guard := none }) rfl (fun K hK => ?_) AllReadyH.nil))
          · rw [if_pos (by rfl)]
            go_simp
            (go_at_call 28; refine (rtake_all (X + 1) nm xa ua va ea xn xc un uc vn vc en ec ndr R A B Bq kd code on Z1 (HF0.out.below HOB1.out).lq.row HR200.out HST.out HCD.out.1 HCD.out.2 (HF0.out.below HOB1.out).lq.ru (HF0.out.below HOB1.out).lq.rv HUN.out HVN.out HAM.out HBM.out (lt_of_block (HF0.out.below HOB1.out).lq.box) (HEV.out.below (HF0.out.below HOB1.out).lq.old) HNS.out).mono ?_; rw [HT2.out]; rintro e Z2 ⟨x', pw, rfl, hrx, hrp, t1⟩)
            go_wp2_with fail
            refine hK.out _ _ (HF0.out.below (HOB1.out.below t1)).s9 (fun hHeld => ?_)
            clear hK K
            try simp only [Act.put, List.setIfInBounds_toArray, List.set_cons_zero, List.set_cons_succ]
            obtain ⟨xa', xc', rfl⟩ := hrx.slice
            obtain ⟨xn', hxn⟩ : ∃ m, m = R2.length := ⟨_, rfl⟩
            rw [← hxn] at hrx ⊢
            have RX2 := Lib.hid hrx
            have RP2 := Lib.hid hrp
            have HOB2 := Lib.hid (HOB1.out.below t1)
            clear HOB1
            clear t1 hrx hrp hxn
            refine wpAnyH_take (i := 4) (oi := { dst := some 46, op := Op.move (Operand.tmp 50), type := 51, pos := "law.go:54", after := #[{ on := 3, ground := Ground.data }], guard := none }) (v := ?_) rfl (by kernel_rfl) (by kernel_rfl) (by kernel_rfl) (fun _ _ _ h => h) (Or.inl ⟨by rfl, ?_⟩) (by assumption) ?_
            rotate_left
            focus (intro w hSw; (try dsimp only at hSw); go_simp; try (with_reducible rfl))
            try simp only [Act.put, List.setIfInBounds_toArray, List.set_cons_zero, List.set_cons_succ]
            refine wpAnyH_take (i := 5) (oi := { dst := some 51, op := Op.extract (Operand.tmp 46) 0, type := 48, pos := "law.go:54", after := #[{ on := 4, ground := Ground.data }], guard := none }) (v := ?_) rfl (by kernel_rfl) (by kernel_rfl) (by kernel_rfl) (fun _ _ _ h => h) (Or.inl ⟨by rfl, ?_⟩) (by assumption) ?_
            rotate_left
            focus (intro w hSw; (try dsimp only at hSw); go_simp; try (with_reducible rfl))
            try simp only [Act.put, List.setIfInBounds_toArray, List.set_cons_zero, List.set_cons_succ]
            refine wpAnyH_take (i := 6) (oi := { dst := some 52, op := Op.extract (Operand.tmp 46) 1, type := 24, pos := "law.go:54", after := #[{ on := 4, ground := Ground.data }, { on := 8, ground := Ground.gcOnly Departure.lateStores }], guard := none }) (v := ?_) rfl (by kernel_rfl) (by kernel_rfl) (by kernel_rfl) (fun _ _ _ h => h) (Or.inl ⟨by rfl, ?_⟩) (by assumption) ?_
            rotate_left
            focus (intro w hSw; (try dsimp only at hSw); go_simp; try (with_reducible rfl))
            try simp only [Act.put, List.setIfInBounds_toArray, List.set_cons_zero, List.set_cons_succ]
            refine wpAnyH_ready (rs := [7]) (by kernel_rfl) (by simp) (AllReadyH.cons (o := { dst := some 14, op := Op.alloc 48, type := 0, pos := "law.go:54", after := #[], guard := none }) rfl (fun K hK => ?_) AllReadyH.nil)
            rw [if_pos (by rfl)]
            go_simp
            have t2 := below_alloc Z2 (.cells R0 48)
            refine hK.out _ _ (HF0.out.below (HOB2.out.below t2)).s9 (fun hHeld => ?_)
            clear hK K
            try simp only [Act.put, List.setIfInBounds_toArray, List.set_cons_zero, List.set_cons_succ]
            have YB3 : Hid (BoxAt Z2.heap.size R0 Z0 (Z2.alloc (.cells R0 48))) := Lib.hid ⟨heap_alloc_new Z2 _, HOB2.out.size⟩
            have HOB3 := Lib.hid (HOB2.out.below t2)
            have RX3 := Lib.hid (RX2.out.below t2)
            have RP3 := Lib.hid (RP2.out.below t2)
            clear HOB2 RX2 RP2
            obtain ⟨Z3, hZ⟩ : ∃ Y, Y = Z2.alloc (.cells R0 48) := ⟨_, rfl⟩
            obtain ⟨yb, hy⟩ : ∃ g, g = Z2.heap.size := ⟨_, rfl⟩
            rw [← hZ] at HOB3 RX3 RP3 YB3
            rw [← hy] at YB3
            unfold R0 at hZ
            rw [← hZ] at hHeld ⊢
            rw [← hy]
            clear t2 hZ hy
            refine wpAnyH_ready (rs := [8]) (by kernel_rfl) (by simp) (AllReadyH.cons (o := { dst := none, op := Op.store 48 (Operand.tmp 14) (Operand.tmp 51), type := 0, pos := "law.go:54", after := #[{ on := 7, ground := Ground.data }, { on := 5, ground := Ground.data }, { on := 3, ground := Ground.chain }, { on := 0, ground := Ground.phase }, { on := 1, ground := Ground.phase }, { on := 2, ground := Ground.phase }, { on := 3, ground := Ground.phase }, { on := 4, ground := Ground.phase }, { on := 5, ground := Ground.phase }, { on := 6, ground := Ground.textOnly Departure.lateStores }, { on := 7, ground := Ground.phase }], guard := none }) rfl (fun K hK => ?_) AllReadyH.nil)
            have yb0 : Z3.heap[yb]? = some (.cells #[.string ⟨#[]⟩, .slice none 0 0, .slice none 0 0, .slice none 0 0, .bool false] 48 (0, 0)) := YB3.out.1
            have y0 : Z3.cell? ⟨yb, 0, none⟩ = some (.string ⟨#[]⟩) := by simp [World.cell?, yb0]
            have y1 : Z3.cell? ⟨yb, 1, none⟩ = some (.slice none 0 0) := by simp [World.cell?, yb0]
            have y2 : Z3.cell? ⟨yb, 2, none⟩ = some (.slice none 0 0) := by simp [World.cell?, yb0]
            have y3 : Z3.cell? ⟨yb, 3, none⟩ = some (.slice none 0 0) := by simp [World.cell?, yb0]
            have y4 : Z3.cell? ⟨yb, 4, none⟩ = some (.bool false) := by simp [World.cell?, yb0]
            have yf : ∀ o, Z3.frozen? ⟨yb, o, none⟩ = false := fun o => by simp [World.frozen?, yb0]
            have t8 := put5_turn Z3 yb (.string nm) (.slice xa' xn' xc') (.slice ua un uc) (.slice va vn vc) (.bool nd2)
            have HO8 := Lib.hid (show OB Z0 (put5 Z3 yb (.string nm) (.slice xa' xn' xc') (.slice ua un uc) (.slice va vn vc) (.bool nd2)) from Below.trans HOB3.out (t8.at_below (B := Z0.heap.size) HOB3.out.size YB3.out.2))
            have RX8 := Lib.hid (one_at RX3.out YB3.out.1 t8)
            have RP8 := Lib.hid (row_at RP3.out (noByte_rt yb0) t8)
            have YN8 := Lib.hid (heap_set (heap_set (heap_set (heap_set (heap_set yb0 0 (.string nm)) 1 (.slice xa' xn' xc')) 2 (.slice ua un uc)) 3 (.slice va vn vc)) 4 (.bool nd2))
            have YL := Lib.hid YB3.out.2
            rw [if_pos (by rfl)]
            go_simp
            refine hK.out _ _ (HF0.out.below HO8.out).s9 (fun hHeld => ?_)
            clear hK K yb0 y0 y1 y2 y3 y4 yf t8
            try simp only [Act.put, List.setIfInBounds_toArray, List.set_cons_zero, List.set_cons_succ]
            refine wpAnyH_take (i := 9) (oi := { dst := some 15, op := Op.assign (Operand.tmp 52), type := 24, pos := "law.go:54", after := #[{ on := 6, ground := Ground.data }, { on := 8, ground := Ground.chain }, { on := 0, ground := Ground.phase }, { on := 1, ground := Ground.phase }, { on := 2, ground := Ground.phase }, { on := 3, ground := Ground.phase }, { on := 4, ground := Ground.phase }, { on := 5, ground := Ground.phase }, { on := 6, ground := Ground.phase }, { on := 7, ground := Ground.phase }, { on := 8, ground := Ground.phase }], guard := none }) (v := ?_) rfl (by kernel_rfl) (by kernel_rfl) (by kernel_rfl) (fun _ _ _ h => h) (Or.inl ⟨by rfl, ?_⟩) (by assumption) ?_
            rotate_left
            focus (intro w hSw; (try dsimp only at hSw); go_simp; try (with_reducible rfl))
            try simp only [Act.put, List.setIfInBounds_toArray, List.set_cons_zero, List.set_cons_succ]
            refine wpAnyH_done (by kernel_rfl) ?_ _
            go_wp2_with fail
            go_meet
            case rel =>
              have hf := HF0.out.below HO8.out
              have hlt := lt_of_block HF0.out.lq.box
              have hyl := YL.out
              exact Lib.hid ⟨yb, xa', xn', xc', rfl, by omega, ⟨hf.lq, hf.ev, hf.hx, hf.rg, RP8.out⟩, RX8.out, YN8.out⟩
          · rw [if_pos (by rfl)]
            go_simp
            have t1 := below_alloc Z1 (.cells R0 48)
            refine hK.out _ _ (HF0.out.below (HOB1.out.below t1)).s9 (fun hHeld => ?_)
            clear hK K
            try simp only [Act.put, List.setIfInBounds_toArray, List.set_cons_zero, List.set_cons_succ]
            have YB2 : Hid (BoxAt Z1.heap.size R0 Z0 (Z1.alloc (.cells R0 48))) := Lib.hid ⟨heap_alloc_new Z1 _, HOB1.out.size⟩
            have HOB2 := Lib.hid (HOB1.out.below t1)
            clear HOB1
            obtain ⟨Z2, hZ⟩ : ∃ Y, Y = Z1.alloc (.cells R0 48) := ⟨_, rfl⟩
            obtain ⟨yb, hy⟩ : ∃ g, g = Z1.heap.size := ⟨_, rfl⟩
            rw [← hZ] at HOB2 YB2
            rw [← hy] at YB2
            unfold R0 at hZ
            rw [← hZ] at hHeld ⊢
            rw [← hy]
            clear t1 hZ hy
            refine wpAnyH_ready (rs := [3]) (by kernel_rfl) (by simp) (AllReadyH.cons (o := { dst := some 50, op := Op.call { callee := Callee.value (Operand.func 28), args := #[Operand.tmp 47, Operand.tmp 49], argTypes := #[48, 32] }, type := 51, pos := "law.go:54", after := #[{ on := 0, ground := Ground.data }, { on := 2, ground := Ground.data }, { on := 2, ground := Ground.chain }], guard := none }) rfl (fun K hK => ?_) AllReadyH.nil)
            rw [if_pos (by rfl)]
            go_simp
            (go_at_call 28; refine (rtake_all (X + 1) nm xa ua va ea xn xc un uc vn vc en ec ndr R A B Bq kd code on Z2 (HF0.out.below HOB2.out).lq.row HR200.out HST.out HCD.out.1 HCD.out.2 (HF0.out.below HOB2.out).lq.ru (HF0.out.below HOB2.out).lq.rv HUN.out HVN.out HAM.out HBM.out (lt_of_block (HF0.out.below HOB2.out).lq.box) (HEV.out.below (HF0.out.below HOB2.out).lq.old) HNS.out).mono ?_; rw [HT2.out]; rintro e Z3 ⟨x', pw, rfl, hrx, hrp, t2⟩)
            go_wp2_with fail
            refine hK.out _ _ (HF0.out.below (HOB2.out.below t2)).s9 (fun hHeld => ?_)
            clear hK K
            try simp only [Act.put, List.setIfInBounds_toArray, List.set_cons_zero, List.set_cons_succ]
            obtain ⟨xa', xc', rfl⟩ := hrx.slice
            obtain ⟨xn', hxn⟩ : ∃ m, m = R2.length := ⟨_, rfl⟩
            rw [← hxn] at hrx ⊢
            have RX3 := Lib.hid hrx
            have RP3 := Lib.hid hrp
            have HOB3 := Lib.hid (HOB2.out.below t2)
            have YB3 := Lib.hid (YB2.out.below t2)
            clear HOB2 YB2
            clear t2 hrx hrp hxn
            refine wpAnyH_take (i := 4) (oi := { dst := some 46, op := Op.move (Operand.tmp 50), type := 51, pos := "law.go:54", after := #[{ on := 3, ground := Ground.data }], guard := none }) (v := ?_) rfl (by kernel_rfl) (by kernel_rfl) (by kernel_rfl) (fun _ _ _ h => h) (Or.inl ⟨by rfl, ?_⟩) (by assumption) ?_
            rotate_left
            focus (intro w hSw; (try dsimp only at hSw); go_simp; try (with_reducible rfl))
            try simp only [Act.put, List.setIfInBounds_toArray, List.set_cons_zero, List.set_cons_succ]
            refine wpAnyH_take (i := 5) (oi := { dst := some 51, op := Op.extract (Operand.tmp 46) 0, type := 48, pos := "law.go:54", after := #[{ on := 4, ground := Ground.data }], guard := none }) (v := ?_) rfl (by kernel_rfl) (by kernel_rfl) (by kernel_rfl) (fun _ _ _ h => h) (Or.inl ⟨by rfl, ?_⟩) (by assumption) ?_
            rotate_left
            focus (intro w hSw; (try dsimp only at hSw); go_simp; try (with_reducible rfl))
            try simp only [Act.put, List.setIfInBounds_toArray, List.set_cons_zero, List.set_cons_succ]
            refine wpAnyH_take (i := 6) (oi := { dst := some 52, op := Op.extract (Operand.tmp 46) 1, type := 24, pos := "law.go:54", after := #[{ on := 4, ground := Ground.data }, { on := 8, ground := Ground.gcOnly Departure.lateStores }], guard := none }) (v := ?_) rfl (by kernel_rfl) (by kernel_rfl) (by kernel_rfl) (fun _ _ _ h => h) (Or.inl ⟨by rfl, ?_⟩) (by assumption) ?_
            rotate_left
            focus (intro w hSw; (try dsimp only at hSw); go_simp; try (with_reducible rfl))
            try simp only [Act.put, List.setIfInBounds_toArray, List.set_cons_zero, List.set_cons_succ]
            refine wpAnyH_ready (rs := [8]) (by kernel_rfl) (by simp) (AllReadyH.cons (o := { dst := none, op := Op.store 48 (Operand.tmp 14) (Operand.tmp 51), type := 0, pos := "law.go:54", after := #[{ on := 7, ground := Ground.data }, { on := 5, ground := Ground.data }, { on := 3, ground := Ground.chain }, { on := 0, ground := Ground.phase }, { on := 1, ground := Ground.phase }, { on := 2, ground := Ground.phase }, { on := 3, ground := Ground.phase }, { on := 4, ground := Ground.phase }, { on := 5, ground := Ground.phase }, { on := 6, ground := Ground.textOnly Departure.lateStores }, { on := 7, ground := Ground.phase }], guard := none }) rfl (fun K hK => ?_) AllReadyH.nil)
            have yb0 : Z3.heap[yb]? = some (.cells #[.string ⟨#[]⟩, .slice none 0 0, .slice none 0 0, .slice none 0 0, .bool false] 48 (0, 0)) := YB3.out.1
            have y0 : Z3.cell? ⟨yb, 0, none⟩ = some (.string ⟨#[]⟩) := by simp [World.cell?, yb0]
            have y1 : Z3.cell? ⟨yb, 1, none⟩ = some (.slice none 0 0) := by simp [World.cell?, yb0]
            have y2 : Z3.cell? ⟨yb, 2, none⟩ = some (.slice none 0 0) := by simp [World.cell?, yb0]
            have y3 : Z3.cell? ⟨yb, 3, none⟩ = some (.slice none 0 0) := by simp [World.cell?, yb0]
            have y4 : Z3.cell? ⟨yb, 4, none⟩ = some (.bool false) := by simp [World.cell?, yb0]
            have yf : ∀ o, Z3.frozen? ⟨yb, o, none⟩ = false := fun o => by simp [World.frozen?, yb0]
            have t8 := put5_turn Z3 yb (.string nm) (.slice xa' xn' xc') (.slice ua un uc) (.slice va vn vc) (.bool nd2)
            have HO8 := Lib.hid (show OB Z0 (put5 Z3 yb (.string nm) (.slice xa' xn' xc') (.slice ua un uc) (.slice va vn vc) (.bool nd2)) from Below.trans HOB3.out (t8.at_below (B := Z0.heap.size) HOB3.out.size YB3.out.2))
            have RX8 := Lib.hid (one_at RX3.out YB3.out.1 t8)
            have RP8 := Lib.hid (row_at RP3.out (noByte_rt yb0) t8)
            have YN8 := Lib.hid (heap_set (heap_set (heap_set (heap_set (heap_set yb0 0 (.string nm)) 1 (.slice xa' xn' xc')) 2 (.slice ua un uc)) 3 (.slice va vn vc)) 4 (.bool nd2))
            have YL := Lib.hid YB3.out.2
            rw [if_pos (by rfl)]
            go_simp
            refine hK.out _ _ (HF0.out.below HO8.out).s9 (fun hHeld => ?_)
            clear hK K yb0 y0 y1 y2 y3 y4 yf t8
            try simp only [Act.put, List.setIfInBounds_toArray, List.set_cons_zero, List.set_cons_succ]
            refine wpAnyH_take (i := 9) (oi := { dst := some 15, op := Op.assign (Operand.tmp 52), type := 24, pos := "law.go:54", after := #[{ on := 6, ground := Ground.data }, { on := 8, ground := Ground.chain }, { on := 0, ground := Ground.phase }, { on := 1, ground := Ground.phase }, { on := 2, ground := Ground.phase }, { on := 3, ground := Ground.phase }, { on := 4, ground := Ground.phase }, { on := 5, ground := Ground.phase }, { on := 6, ground := Ground.phase }, { on := 7, ground := Ground.phase }, { on := 8, ground := Ground.phase }], guard := none }) (v := ?_) rfl (by kernel_rfl) (by kernel_rfl) (by kernel_rfl) (fun _ _ _ h => h) (Or.inl ⟨by rfl, ?_⟩) (by assumption) ?_
            rotate_left
            focus (intro w hSw; (try dsimp only at hSw); go_simp; try (with_reducible rfl))
            try simp only [Act.put, List.setIfInBounds_toArray, List.set_cons_zero, List.set_cons_succ]
            refine wpAnyH_done (by kernel_rfl) ?_ _
            go_wp2_with fail
            go_meet
            case rel =>
              have hf := HF0.out.below HO8.out
              have hlt := lt_of_block HF0.out.lq.box
              have hyl := YL.out
              exact Lib.hid ⟨yb, xa', xn', xc', rfl, by omega, ⟨hf.lq, hf.ev, hf.hx, hf.rg, RP8.out⟩, RX8.out, YN8.out⟩
        · rw [if_pos (by rfl)]
          go_simp
          have t0 := below_alloc Z0 (.cells R0 48)
          refine hK.out _ _ (HF0.out.below (HOB0.out.below t0)).s9 (fun hHeld => ?_)
          clear hK K
          try simp only [Act.put, List.setIfInBounds_toArray, List.set_cons_zero, List.set_cons_succ]
          have YB1 : Hid (BoxAt Z0.heap.size R0 Z0 (Z0.alloc (.cells R0 48))) := Lib.hid ⟨heap_alloc_new Z0 _, HOB0.out.size⟩
          have HOB1 := Lib.hid (HOB0.out.below t0)
          clear HOB0
          obtain ⟨Z1, hZ⟩ : ∃ Y, Y = Z0.alloc (.cells R0 48) := ⟨_, rfl⟩
          obtain ⟨yb, hy⟩ : ∃ g, g = Z0.heap.size := ⟨_, rfl⟩
          rw [← hZ] at HOB1 YB1
          rw [← hy] at YB1
          unfold R0 at hZ
          rw [← hZ] at hHeld ⊢
          rw [← hy]
          clear t0 hZ hy
          refine wpAnyH_ready (rs := [2]) (by kernel_rfl) (by simp) (AllReadyH.cons (o := { dst := some 49, op := Op.call { callee := Callee.value (Operand.func 29), args := #[Operand.tmp 48], argTypes := #[26] }, type := 32, pos := "law.go:54", after := #[{ on := 1, ground := Ground.data }], guard := none }) rfl (fun K hK => ?_) AllReadyH.nil)
          rw [if_pos (by rfl)]
          go_simp
          (go_at_call 29; refine (tas_any kd code on ea en ec _).mono ?_; rintro e Z2 ⟨rfl, t1⟩)
          go_wp2_with fail
          refine hK.out _ _ (HF0.out.below (HOB1.out.below t1)).s9 (fun hHeld => ?_)
          clear hK K
          try simp only [Act.put, List.setIfInBounds_toArray, List.set_cons_zero, List.set_cons_succ]
          have HOB2 := Lib.hid (HOB1.out.below t1)
          have YB2 := Lib.hid (YB1.out.below t1)
          clear HOB1 YB1
          clear t1
          refine wpAnyH_ready (rs := [3]) (by kernel_rfl) (by simp) (AllReadyH.cons (o := { dst := some 50, op := Op.call { callee := Callee.value (Operand.func 28), args := #[Operand.tmp 47, Operand.tmp 49], argTypes := #[48, 32] }, type := 51, pos := "law.go:54", after := #[{ on := 0, ground := Ground.data }, { on := 2, ground := Ground.data }, { on := 2, ground := Ground.chain }], guard := none }) rfl (fun K hK => ?_) AllReadyH.nil)
          rw [if_pos (by rfl)]
          go_simp
          (go_at_call 28; refine (rtake_all (X + 1) nm xa ua va ea xn xc un uc vn vc en ec ndr R A B Bq kd code on Z2 (HF0.out.below HOB2.out).lq.row HR200.out HST.out HCD.out.1 HCD.out.2 (HF0.out.below HOB2.out).lq.ru (HF0.out.below HOB2.out).lq.rv HUN.out HVN.out HAM.out HBM.out (lt_of_block (HF0.out.below HOB2.out).lq.box) (HEV.out.below (HF0.out.below HOB2.out).lq.old) HNS.out).mono ?_; rw [HT2.out]; rintro e Z3 ⟨x', pw, rfl, hrx, hrp, t2⟩)
          go_wp2_with fail
          refine hK.out _ _ (HF0.out.below (HOB2.out.below t2)).s9 (fun hHeld => ?_)
          clear hK K
          try simp only [Act.put, List.setIfInBounds_toArray, List.set_cons_zero, List.set_cons_succ]
          obtain ⟨xa', xc', rfl⟩ := hrx.slice
          obtain ⟨xn', hxn⟩ : ∃ m, m = R2.length := ⟨_, rfl⟩
          rw [← hxn] at hrx ⊢
          have RX3 := Lib.hid hrx
          have RP3 := Lib.hid hrp
          have HOB3 := Lib.hid (HOB2.out.below t2)
          have YB3 := Lib.hid (YB2.out.below t2)
          clear HOB2 YB2
          clear t2 hrx hrp hxn
          refine wpAnyH_take (i := 4) (oi := { dst := some 46, op := Op.move (Operand.tmp 50), type := 51, pos := "law.go:54", after := #[{ on := 3, ground := Ground.data }], guard := none }) (v := ?_) rfl (by kernel_rfl) (by kernel_rfl) (by kernel_rfl) (fun _ _ _ h => h) (Or.inl ⟨by rfl, ?_⟩) (by assumption) ?_
          rotate_left
          focus (intro w hSw; (try dsimp only at hSw); go_simp; try (with_reducible rfl))
          try simp only [Act.put, List.setIfInBounds_toArray, List.set_cons_zero, List.set_cons_succ]
          refine wpAnyH_take (i := 5) (oi := { dst := some 51, op := Op.extract (Operand.tmp 46) 0, type := 48, pos := "law.go:54", after := #[{ on := 4, ground := Ground.data }], guard := none }) (v := ?_) rfl (by kernel_rfl) (by kernel_rfl) (by kernel_rfl) (fun _ _ _ h => h) (Or.inl ⟨by rfl, ?_⟩) (by assumption) ?_
          rotate_left
          focus (intro w hSw; (try dsimp only at hSw); go_simp; try (with_reducible rfl))
          try simp only [Act.put, List.setIfInBounds_toArray, List.set_cons_zero, List.set_cons_succ]
          refine wpAnyH_take (i := 6) (oi := { dst := some 52, op := Op.extract (Operand.tmp 46) 1, type := 24, pos := "law.go:54", after := #[{ on := 4, ground := Ground.data }, { on := 8, ground := Ground.gcOnly Departure.lateStores }], guard := none }) (v := ?_) rfl (by kernel_rfl) (by kernel_rfl) (by kernel_rfl) (fun _ _ _ h => h) (Or.inl ⟨by rfl, ?_⟩) (by assumption) ?_
          rotate_left
          focus (intro w hSw; (try dsimp only at hSw); go_simp; try (with_reducible rfl))
          try simp only [Act.put, List.setIfInBounds_toArray, List.set_cons_zero, List.set_cons_succ]
          refine wpAnyH_ready (rs := [8]) (by kernel_rfl) (by simp) (AllReadyH.cons (o := { dst := none, op := Op.store 48 (Operand.tmp 14) (Operand.tmp 51), type := 0, pos := "law.go:54", after := #[{ on := 7, ground := Ground.data }, { on := 5, ground := Ground.data }, { on := 3, ground := Ground.chain }, { on := 0, ground := Ground.phase }, { on := 1, ground := Ground.phase }, { on := 2, ground := Ground.phase }, { on := 3, ground := Ground.phase }, { on := 4, ground := Ground.phase }, { on := 5, ground := Ground.phase }, { on := 6, ground := Ground.textOnly Departure.lateStores }, { on := 7, ground := Ground.phase }], guard := none }) rfl (fun K hK => ?_) AllReadyH.nil)
          have yb0 : Z3.heap[yb]? = some (.cells #[.string ⟨#[]⟩, .slice none 0 0, .slice none 0 0, .slice none 0 0, .bool false] 48 (0, 0)) := YB3.out.1
          have y0 : Z3.cell? ⟨yb, 0, none⟩ = some (.string ⟨#[]⟩) := by simp [World.cell?, yb0]
          have y1 : Z3.cell? ⟨yb, 1, none⟩ = some (.slice none 0 0) := by simp [World.cell?, yb0]
          have y2 : Z3.cell? ⟨yb, 2, none⟩ = some (.slice none 0 0) := by simp [World.cell?, yb0]
          have y3 : Z3.cell? ⟨yb, 3, none⟩ = some (.slice none 0 0) := by simp [World.cell?, yb0]
          have y4 : Z3.cell? ⟨yb, 4, none⟩ = some (.bool false) := by simp [World.cell?, yb0]
          have yf : ∀ o, Z3.frozen? ⟨yb, o, none⟩ = false := fun o => by simp [World.frozen?, yb0]
          have t8 := put5_turn Z3 yb (.string nm) (.slice xa' xn' xc') (.slice ua un uc) (.slice va vn vc) (.bool nd2)
          have HO8 := Lib.hid (show OB Z0 (put5 Z3 yb (.string nm) (.slice xa' xn' xc') (.slice ua un uc) (.slice va vn vc) (.bool nd2)) from Below.trans HOB3.out (t8.at_below (B := Z0.heap.size) HOB3.out.size YB3.out.2))
          have RX8 := Lib.hid (one_at RX3.out YB3.out.1 t8)
          have RP8 := Lib.hid (row_at RP3.out (noByte_rt yb0) t8)
          have YN8 := Lib.hid (heap_set (heap_set (heap_set (heap_set (heap_set yb0 0 (.string nm)) 1 (.slice xa' xn' xc')) 2 (.slice ua un uc)) 3 (.slice va vn vc)) 4 (.bool nd2))
          have YL := Lib.hid YB3.out.2
          rw [if_pos (by rfl)]
          go_simp
          refine hK.out _ _ (HF0.out.below HO8.out).s9 (fun hHeld => ?_)
          clear hK K yb0 y0 y1 y2 y3 y4 yf t8
          try simp only [Act.put, List.setIfInBounds_toArray, List.set_cons_zero, List.set_cons_succ]
          refine wpAnyH_take (i := 9) (oi := { dst := some 15, op := Op.assign (Operand.tmp 52), type := 24, pos := "law.go:54", after := #[{ on := 6, ground := Ground.data }, { on := 8, ground := Ground.chain }, { on := 0, ground := Ground.phase }, { on := 1, ground := Ground.phase }, { on := 2, ground := Ground.phase }, { on := 3, ground := Ground.phase }, { on := 4, ground := Ground.phase }, { on := 5, ground := Ground.phase }, { on := 6, ground := Ground.phase }, { on := 7, ground := Ground.phase }, { on := 8, ground := Ground.phase }], guard := none }) (v := ?_) rfl (by kernel_rfl) (by kernel_rfl) (by kernel_rfl) (fun _ _ _ h => h) (Or.inl ⟨by rfl, ?_⟩) (by assumption) ?_
          rotate_left
          focus (intro w hSw; (try dsimp only at hSw); go_simp; try (with_reducible rfl))
          try simp only [Act.put, List.setIfInBounds_toArray, List.set_cons_zero, List.set_cons_succ]
          refine wpAnyH_done (by kernel_rfl) ?_ _
          go_wp2_with fail
          go_meet
          case rel =>
            have hf := HF0.out.below HO8.out
            have hlt := lt_of_block HF0.out.lq.box
            have hyl := YL.out
            exact Lib.hid ⟨yb, xa', xn', xc', rfl, by omega, ⟨hf.lq, hf.ev, hf.hx, hf.rg, RP8.out⟩, RX8.out, YN8.out⟩
      case rest =>
      obtain ⟨yb, xa3, xn3, xc3, rfl, hxy, hf3, hr3, hyb⟩ := hcut.out
      have HF3 := Lib.hid hf3
      have HR3 := Lib.hid hr3
      have HNE := Lib.hid hxy
      obtain ⟨c0, c1, c2, c3, c4⟩ := hf3.lq.c5
      have fr := hf3.lq.fr
      have y0 : wc.cell? ⟨yb, 0, none⟩ = some (.string nm) := by simp [World.cell?, hyb]
      have y1 : wc.cell? ⟨yb, 1, none⟩ = some (.slice xa3 xn3 xc3) := by simp [World.cell?, hyb]
      have y2 : wc.cell? ⟨yb, 2, none⟩ = some (.slice ua un uc) := by simp [World.cell?, hyb]
      have y3 : wc.cell? ⟨yb, 3, none⟩ = some (.slice va vn vc) := by simp [World.cell?, hyb]
      have y4 : wc.cell? ⟨yb, 4, none⟩ = some (.bool nd2) := by simp [World.cell?, hyb]
      clear hf3 hr3 hyb hxy hcut HF2
      go_upto_region 12 with fail
      have HF5 : Hid (FQ w b X nm M S2 ndp2 nd2 (.slice xa3 xn3 xc3) (.slice ua un uc) (.slice va vn vc) R2 A B eb #[.int .i64 kd, .int .u8 code, .int .u8 (on : Nat), .slice ea en ec] pg u15 Y2 Y2 (put5 wc X (.string nm) (.slice xa3 xn3 xc3) (.slice ua un uc) (.slice va vn vc) (.bool nd2))) := Lib.hid (HF3.out.put (put5_turn _ _ _ _ _ _ _) (heap_set (heap_set (heap_set (heap_set (heap_set HF3.out.lq.box 0 _) 1 _) 2 _) 3 _) 4 _) HR3.out)
      obtain ⟨V5, hV5⟩ : ∃ V5, V5 = put5 wc X (.string nm) (.slice xa3 xn3 xc3) (.slice ua un uc) (.slice va vn vc) (.bool nd2) := ⟨_, rfl⟩
      rw [← hV5] at HF5
      unfold put5 at hV5
      rw [← hV5]
      clear c0 c1 c2 c3 c4 fr y0 y1 y2 y3 y4 hV5 HF3 HR3 HNE
      go_upto_region 12 with fail
      go_cut [56] (fun t wx => t = .bool ((k : Int) == lv) ∧ wx = V5)
      case first =>
        go_wp2_with fail
        go_meet
        case rel => exact ⟨by simp, rfl⟩
      case rest =>
      obtain ⟨rfl, rfl⟩ := hcut
      go_upto_if 56 with fail
      go_cut [] (fun wx => Hid (AfterL w b X nm M nd2 (.slice ua un uc) (.slice va vn vc) A B eb #[.int .i64 kd, .int .u8 code, .int .u8 (on : Nat), .slice ea en ec] pg u15 Y2 k wx))
      case first =>
        cases hlv : ((k : Int) == lv)
        · go_wp2_with fail
          go_meet
          case rel => exact Lib.hid ⟨S2, ndp2, xa3, xn3, xc3, R2, HF5.out, HLK2.out, HND2.out, by have := HRL2.out; omega⟩
        · clear hlv
          go_wp2_with fail
          refine (leave_any HF5.out.lq.tk HLK2.out.le).mono ?_
          rintro e V6 ⟨ps, rfl, hps, hk6, t6⟩
          have HF6 := Lib.hid (HF5.out.talk t6 hk6)
          have HPS := Lib.hid hps.row
          clear hps hk6 t6 HF5
          obtain ⟨c0, c1, c2, c3, c4⟩ := HF6.out.lq.c5
          obtain ⟨w1, w2, w3⟩ := HLK2.out.want 252 40 (by omega)
          have hsaid : (rwantR R2 252 40).2.1 = (wantS S2 252 40).2.1 := by rw [w2]
          obtain ⟨R3, hR3⟩ : ∃ R3, R3 = (rwantR R2 252 40).1 := ⟨_, rfl⟩
          obtain ⟨Q3, hQ3⟩ : ∃ Q3, Q3 = (rwantR R2 252 40).2.1 := ⟨_, rfl⟩
          obtain ⟨er, her⟩ : ∃ er, er = (rwantR R2 252 40).2.2 := ⟨_, rfl⟩
          have HWT := Lib.hid (rwant_n (X + 1) un vn (.slice xa3 xn3 xc3) ua va uc vc R2 A B HUN.out HVN.out V6 HF6.out.lq.row (by have := HRL2.out; omega) (fun ours => HLK2.out.le5 ours 40) HF6.out.lq.ru HF6.out.lq.rv HAM.out HBM.out (lt_of_block HF6.out.lq.box))
          rw [← hR3, ← hQ3, ← her] at HWT
          rw [← hR3] at w1 w3
          rw [← hQ3] at hsaid
          rw [← hsaid] at HPS
          have HLK3 := Lib.hid w1
          have HRL3 : Hid (R3.length ≤ 2 * k + 2) := Lib.hid (by have := HRL2.out; omega)
          have HQ3 : Hid (Q3.length ≤ maxLen) := Lib.hid (by rw [hsaid]; have := wsaid3 S2 252 40; unfold maxLen; omega)
          have HTY := Lib.hid (typeOn_leave S2)
          clear w1 w2 w3 hsaid hR3 hQ3 her
          go_wp2_with fail
          refine HWT.out.mono ?_
          rintro e V7 ⟨x7, p7, rfl, hx7, hp7, t7⟩
          obtain ⟨xa7, xc7, rfl⟩ := hx7.slice
          obtain ⟨xn7, hxn7⟩ : ∃ m, m = R3.length := ⟨_, rfl⟩
          rw [← hxn7] at hx7 ⊢
          have HF7 := Lib.hid (HF6.out.below t7)
          have HPS7 := Lib.hid (HPS.out.below t7)
          have HX7 := Lib.hid hx7
          have HP7 := Lib.hid hp7.row
          clear hx7 hp7 t7 hxn7 HF6 HPS HWT c0 c1 c2 c3 c4
          obtain ⟨c0, c1, c2, c3, c4⟩ := HF7.out.lq.c5
          go_upto_region 15 with fail
          have hb8 := below_alloc V7 (.cells #[.slice xa7 xn7 xc7, .slice ua un uc, .slice va vn vc] 46)
          have hn8 := heap_alloc_new V7 (.cells #[.slice xa7 xn7 xc7, .slice ua un uc, .slice va vn vc] 46)
          obtain ⟨V8, hV8⟩ : ∃ V8, V8 = V7.alloc (.cells #[.slice xa7 xn7 xc7, .slice ua un uc, .slice va vn vc] 46) := ⟨_, rfl⟩
          obtain ⟨zb, hzb⟩ : ∃ zb, zb = V7.heap.size := ⟨_, rfl⟩
          rw [← hV8] at hb8 hn8 ⊢
          rw [← hzb] at hn8 ⊢
          have HF8 := Lib.hid (HF7.out.below hb8)
          have HPS8 := Lib.hid (HPS7.out.below hb8)
          have HX8 := Lib.hid (HX7.out.below hb8)
          have HP8 := Lib.hid (HP7.out.below hb8)
          have z0 : V8.cell? ⟨zb, 0, none⟩ = some (.slice xa7 xn7 xc7) := by simp [World.cell?, hn8]
          have z1 : V8.cell? ⟨zb, 1, none⟩ = some (.slice ua un uc) := by simp [World.cell?, hn8]
          have z2 : V8.cell? ⟨zb, 2, none⟩ = some (.slice va vn vc) := by simp [World.cell?, hn8]
          clear c0 c1 c2 c3 c4 hb8 hn8 hV8 hzb HF7 HPS7 HX7 HP7
          obtain ⟨c0, c1, c2, c3, c4⟩ := HF8.out.lq.c5
          have fr := HF8.out.lq.fr
          go_upto_region 16 with fail
          have tt : Turn (At X) V8 (((V8.setCell ⟨X, 1, none⟩ (.slice xa7 xn7 xc7)).setCell ⟨X, 2, none⟩ (.slice ua un uc)).setCell ⟨X, 3, none⟩ (.slice va vn vc)) := ((turn_set _ _ _ _).trans (turn_set _ _ _ _)).trans (turn_set _ _ _ _)
          have HF9 : Hid (FQ w b X nm M (wantS S2 252 40).1 ndp2 nd2 (.slice xa7 xn7 xc7) (.slice ua un uc) (.slice va vn vc) R3 A B eb #[.int .i64 kd, .int .u8 code, .int .u8 (on : Nat), .slice ea en ec] pg u15 Y2 Y2 (((V8.setCell ⟨X, 1, none⟩ (.slice xa7 xn7 xc7)).setCell ⟨X, 2, none⟩ (.slice ua un uc)).setCell ⟨X, 3, none⟩ (.slice va vn vc))) := Lib.hid (HF8.out.put tt (heap_set (heap_set (heap_set HF8.out.lq.box 1 _) 2 _) 3 _) HX8.out)
          have HPS9 := Lib.hid (row_at HPS8.out (noByte_rt HF8.out.lq.box) tt)
          have HP9 := Lib.hid (row_at HP8.out (noByte_rt HF8.out.lq.box) tt)
          obtain ⟨V9, hV9⟩ : ∃ V9, V9 = ((V8.setCell ⟨X, 1, none⟩ (.slice xa7 xn7 xc7)).setCell ⟨X, 2, none⟩ (.slice ua un uc)).setCell ⟨X, 3, none⟩ (.slice va vn vc) := ⟨_, rfl⟩
          rw [← hV9] at HF9 HPS9 HP9 ⊢
          clear c0 c1 c2 c3 c4 fr z0 z1 z2 tt hV9 HF8 HPS8 HP8 HX8
          have hsm := Base.same_any _ _ Q3 Q3 V9 HPS9.out HP9.out HQ3.out
          rw [decide_eq_true rfl] at hsm
          have HSM := Lib.hid hsm
          clear hsm
          go_wp2_with fail
          refine HSM.out.mono ?_
          rintro e V10 ⟨rfl, nn, hz⟩
          have t10 : Below V9.heap.size V9 V10 := by rw [hz]; exact ⟨rfl, rfl, rfl, Nat.le_refl _, fun _ _ => rfl⟩
          have HF10 := Lib.hid (HF9.out.below t10)
          clear hz t10 HF9
          go_wp2_with fail
          go_meet
          case rel => exact Lib.hid ⟨_, ndp2, xa7, xn7, xc7, R3, HF10.out, HLK3.out, by rw [HTY.out]; exact HND2.out, HRL3.out⟩
      case rest =>
      obtain ⟨S3, ndp3, xa, xn, xc, R3, hf, hlk3, hnd3, hl3⟩ := hcut.out
      have HLK3 := Lib.hid hlk3
      have HL3 : Hid (R3.length ≤ 2 * (k + 1)) := Lib.hid (by omega)
      have HGV : Hid (GQ w b X nm M S3 nd2 (.slice xa xn xc) (.slice ua un uc) (.slice va vn vc) R3 A B eb #[.int .i64 kd, .int .u8 code, .int .u8 (on : Nat), .slice ea en ec] pg u15 Y2 wc) := Lib.hid ⟨ndp3, hf, hnd3⟩
      clear hcut hf hnd3 hl3 HF5
      obtain ⟨GG, hGG⟩ : ∃ GG : World → Prop, GG = GQ w b X nm M S3 nd2 (.slice xa xn xc) (.slice ua un uc) (.slice va vn vc) R3 A B eb #[.int .i64 kd, .int .u8 code, .int .u8 (on : Nat), .slice ea en ec] pg u15 Y2 := ⟨_, rfl⟩
      clear GG hGG
      obtain ⟨bb, hbb⟩ : ∃ bb, bb = (basicB S3 && nd2) := ⟨_, rfl⟩
      obtain ⟨ee, hee⟩ : ∃ ee, ee = decide (stOf S3 true 40 = 1) := ⟨_, rfl⟩
      obtain ⟨ss, hss⟩ : ∃ ss, ss = stOf S3 true on := ⟨_, rfl⟩
      have hrb := basics hlk3 nd2
      have hre := hlk3.same true 40 (by omega)
      have hrs := hlk3.same true on HONB.out
      have hR1000 : R3.length ≤ 1000 := by have := HL3.out; omega
      have htt : (nm.toList == nm.toList) = true := by simp
      go_upto_region 18 with fail
      have HG0 := Lib.hid (HGV.out.below (Below.refl _ _).drew)
      have HBAS := Lib.hid fun Z (hz : GQ w b X nm M S3 nd2 (.slice xa xn xc) (.slice ua un uc) (.slice va vn vc) R3 A B eb #[.int .i64 kd, .int .u8 code, .int .u8 (on : Nat), .slice ea en ec] pg u15 Y2 Z) => gq_basic hz
      have HEXT := Lib.hid fun Z (hz : GQ w b X nm M S3 nd2 (.slice xa xn xc) (.slice ua un uc) (.slice va vn vc) R3 A B eb #[.int .i64 kd, .int .u8 code, .int .u8 (on : Nat), .slice ea en ec] pg u15 Y2 Z) => gq_ext hz
      have HSTA := Lib.hid fun Z (hz : GQ w b X nm M S3 nd2 (.slice xa xn xc) (.slice ua un uc) (.slice va vn vc) R3 A B eb #[.int .i64 kd, .int .u8 code, .int .u8 (on : Nat), .slice ea en ec] pg u15 Y2 Z) => gq_state on HONB.out hz
      have HRBA := Lib.hid fun Z (hz : GQ w b X nm M S3 nd2 (.slice xa xn xc) (.slice ua un uc) (.slice va vn vc) R3 A B eb #[.int .i64 kd, .int .u8 code, .int .u8 (on : Nat), .slice ea en ec] pg u15 Y2 Z) => rbasic_any (X + 1) nm xa ua va xn xc un uc vn vc nd2 R3 Z hz.row.1 hR1000
      have HRON := Lib.hid fun Z (hz : GQ w b X nm M S3 nd2 (.slice xa xn xc) (.slice ua un uc) (.slice va vn vc) R3 A B eb #[.int .i64 kd, .int .u8 code, .int .u8 (on : Nat), .slice ea en ec] pg u15 Y2 Z) => ron_any (X + 1) nm (.slice xa xn xc) (.slice ua un uc) (.slice va vn vc) nd2 R3 true 40 Z hz.row.1 hR1000
      have HRST := Lib.hid fun Z (hz : GQ w b X nm M S3 nd2 (.slice xa xn xc) (.slice ua un uc) (.slice va vn vc) R3 A B eb #[.int .i64 kd, .int .u8 code, .int .u8 (on : Nat), .slice ea en ec] pg u15 Y2 Z) => rstate_any (X + 1) (.slice xa xn xc) (.slice ua un uc) (.slice va vn vc) R3 true on Z hz.row.1 hR1000
      rw [hrb] at HRBA
      rw [hre] at HRON
      rw [hrs] at HRST
      rw [← hbb] at HBAS HRBA
      rw [← hee] at HEXT HRON
      rw [← hss] at HSTA HRST
      clear hbb hee hss hrb hre hrs hlk3
      refine wp_region_held_drew (S := (fun Z => Z.cell? ⟨X, 0, none⟩ = some (.string nm) ∧ Z.cell? ⟨X, 1, none⟩ = some (.slice xa xn xc) ∧ Z.cell? ⟨X, 2, none⟩ = some (.slice ua un uc) ∧ Z.cell? ⟨X, 3, none⟩ = some (.slice va vn vc) ∧ Z.cell? ⟨X, 4, none⟩ = some (.bool nd2) ∧ Z.cell? ⟨eb, 2, none⟩ = some (.int .u8 (on : Nat)))) (by kernel_rfl) (HGV.out.below (Below.refl _ _).drew).s6 (fun hHeld => ?_)
      obtain ⟨Z0, hZ0⟩ : ∃ Y, Y = wc.drew := ⟨_, rfl⟩
      rw [← hZ0] at HG0 hHeld ⊢
      clear hZ0 HGV
      refine wpAnyH_take (i := 0) (oi := { dst := some 72, op := Op.move (Operand.tmp 13), type := 24, pos := "law.go:64", after := #[], guard := none }) (v := ?_) rfl (by kernel_rfl) (by kernel_rfl) (by kernel_rfl) (fun _ _ _ h => h) (Or.inl ⟨by rfl, ?_⟩) (by assumption) ?_
      rotate_left
      focus (intro w hSw; (try dsimp only at hSw); go_simp; try (with_reducible rfl))
      try simp only [Act.put, List.setIfInBounds_toArray, List.set_cons_zero, List.set_cons_succ]
      refine wpAnyH_take (i := 1) (oi := { dst := some 73, op := Op.move (Operand.tmp 15), type := 24, pos := "law.go:64", after := #[], guard := none }) (v := ?_) rfl (by kernel_rfl) (by kernel_rfl) (by kernel_rfl) (fun _ _ _ h => h) (Or.inl ⟨by rfl, ?_⟩) (by assumption) ?_
      rotate_left
      focus (intro w hSw; (try dsimp only at hSw); go_simp; try (with_reducible rfl))
      try simp only [Act.put, List.setIfInBounds_toArray, List.set_cons_zero, List.set_cons_succ]
      refine wpAnyH_ready (rs := [2]) (by kernel_rfl) (by simp) (AllReadyH.cons (o := { dst := some 74, op := Op.call { callee := Callee.value (Operand.func 11), args := #[Operand.tmp 72, Operand.tmp 73], argTypes := #[24, 24] }, type := 4, pos := "law.go:64", after := #[{ on := 0, ground := Ground.data }, { on := 1, ground := Ground.data }], guard := none }) rfl (fun K hK => ?_) AllReadyH.nil)
      have hsm := Base.same_any _ _ Y2 Y2 Z0 HG0.out.row.2.1 HG0.out.row.2.2 HYL.out
      rw [decide_eq_true rfl] at hsm
      rw [if_pos (by rfl)]
      go_simp
      (go_at_call 11; refine hsm.mono ?_; rintro e Z1 ⟨rfl, nn, hz⟩)
      have t0 : Below Z0.heap.size Z0 Z1 := by rw [hz]; exact ⟨rfl, rfl, rfl, Nat.le_refl _, fun _ _ => rfl⟩
      clear hz hsm
      go_wp2_with fail
      have HG1 := Lib.hid (HG0.out.below t0)
      refine hK.out _ _ HG1.out.s6 (fun hHeld => ?_)
      clear hK K HG0 t0
      try simp only [Act.put, List.setIfInBounds_toArray, List.set_cons_zero, List.set_cons_succ]
      refine wpAnyH_take (i := 3) (oi := { dst := some 75, op := Op.unOp UnOp.not 4 (Operand.tmp 74), type := 4, pos := "law.go:64", after := #[{ on := 2, ground := Ground.data }], guard := none }) (v := ?_) rfl (by kernel_rfl) (by kernel_rfl) (by kernel_rfl) (fun _ _ _ h => h) (Or.inl ⟨by rfl, ?_⟩) (by assumption) ?_
      rotate_left
      focus (intro w hSw; (try dsimp only at hSw); go_simp; try (with_reducible rfl))
      try simp only [Act.put, List.setIfInBounds_toArray, List.set_cons_zero, List.set_cons_succ]
      refine wpAnyH_take (i := 4) (oi := { dst := some 76, op := Op.move (Operand.tmp 75), type := 4, pos := "law.go:64", after := #[{ on := 3, ground := Ground.data }, { on := 2, ground := Ground.chain }], guard := none }) (v := ?_) rfl (by kernel_rfl) (by kernel_rfl) (by kernel_rfl) (fun _ _ _ h => h) (Or.inl ⟨by rfl, ?_⟩) (by assumption) ?_
      rotate_left
      focus (intro w hSw; (try dsimp only at hSw); go_simp; try (with_reducible rfl))
      try simp only [Act.put, List.setIfInBounds_toArray, List.set_cons_zero, List.set_cons_succ]
      refine wpAnyH_take (i := 5) (oi := { dst := some 77, op := Op.move (Operand.tmp 9), type := 42, pos := "law.go:64", after := #[{ on := 4, ground := Ground.guard }], guard := some (4, false) }) (v := ?_) rfl (by kernel_rfl) (by kernel_rfl) (by kernel_rfl) (fun _ _ _ h => h) (Or.inl ⟨by rfl, ?_⟩) (by assumption) ?_
      rotate_left
      focus (intro w hSw; (try dsimp only at hSw); go_simp; try (with_reducible rfl))
      try simp only [Act.put, List.setIfInBounds_toArray, List.set_cons_zero, List.set_cons_succ]
      refine wpAnyH_take (i := 7) (oi := { dst := some 79, op := Op.load 48 (Operand.tmp 10), type := 48, pos := "law.go:64", after := #[{ on := 4, ground := Ground.guard }], guard := some (4, false) }) (v := ?_) rfl (by kernel_rfl) (by kernel_rfl) (by kernel_rfl) (fun _ _ _ h => h) (Or.inl ⟨by rfl, ?_⟩) (by assumption) ?_
      rotate_left
      focus (intro w hSw; (try dsimp only at hSw); go_simp; try (with_reducible rfl))
      try simp only [Act.put, List.setIfInBounds_toArray, List.set_cons_zero, List.set_cons_succ]
      refine wpAnyH_ready (rs := [6]) (by kernel_rfl) (by simp) (AllReadyH.cons (o := { dst := some 78, op := Op.call { callee := Callee.value (Operand.func 32), args := #[Operand.tmp 77], argTypes := #[42] }, type := 4, pos := "law.go:64", after := #[{ on := 5, ground := Ground.data }, { on := 4, ground := Ground.chain }, { on := 4, ground := Ground.guard }], guard := some (4, false) }) rfl (fun K hK => ?_) AllReadyH.nil)
      rw [if_pos (by rfl)]
      go_simp
      (go_at_call 32; refine (HBAS.out _ HG1.out).mono ?_; rintro e Z2 ⟨rfl, hg⟩)
      have HG2 := Lib.hid hg
      clear hg
      go_wp2_with fail
      refine hK.out _ _ HG2.out.s6 (fun hHeld => ?_)
      clear hK K HG1
      try simp only [Act.put, List.setIfInBounds_toArray, List.set_cons_zero, List.set_cons_succ]
      refine wpAnyH_ready (rs := [8]) (by kernel_rfl) (by simp) (AllReadyH.cons (o := { dst := some 80, op := Op.call { callee := Callee.value (Operand.func 33), args := #[Operand.tmp 79], argTypes := #[48] }, type := 4, pos := "law.go:64", after := #[{ on := 7, ground := Ground.data }, { on := 6, ground := Ground.chain }, { on := 4, ground := Ground.guard }], guard := some (4, false) }) rfl (fun K hK => ?_) AllReadyH.nil)
      rw [if_pos (by rfl)]
      go_simp
      (go_at_call 33; refine (HRBA.out _ HG2.out).mono ?_; rintro e Z3 ⟨rfl, t2⟩)
      go_wp2_with fail
      have HG3 := Lib.hid (HG2.out.below t2)
      refine hK.out _ _ HG3.out.s6 (fun hHeld => ?_)
      clear hK K HG2 t2
      try simp only [Act.put, List.setIfInBounds_toArray, List.set_cons_zero, List.set_cons_succ]
      refine wpAnyH_take (i := 9) (oi := { dst := some 81, op := Op.binOp BinOp.neq 4 (Operand.tmp 78) (Operand.tmp 80) 4, type := 4, pos := "law.go:64", after := #[{ on := 6, ground := Ground.data }, { on := 8, ground := Ground.data }, { on := 4, ground := Ground.guard }], guard := some (4, false) }) (v := ?_) rfl (by kernel_rfl) (by kernel_rfl) (by kernel_rfl) (fun _ _ _ h => h) (Or.inl ⟨by rfl, ?_⟩) (by assumption) ?_
      rotate_left
      focus (intro w hSw; (try dsimp only at hSw); go_simp; try (with_reducible rfl))
      try simp only [Act.put, List.setIfInBounds_toArray, List.set_cons_zero, List.set_cons_succ]
      refine wpAnyH_take (i := 10) (oi := { dst := some 82, op := Op.pick (Operand.tmp 76) (Operand.const (Value.bool true)) (Operand.tmp 81), type := 4, pos := "law.go:64", after := #[{ on := 4, ground := Ground.data }, { on := 9, ground := Ground.data }], guard := none }) (v := ?_) rfl (by kernel_rfl) (by kernel_rfl) (by kernel_rfl) (fun _ _ _ h => h) (Or.inl ⟨by rfl, ?_⟩) (by assumption) ?_
      rotate_left
      focus (intro w hSw; (try dsimp only at hSw); go_simp; try (with_reducible rfl))
      try simp only [Act.put, List.setIfInBounds_toArray, List.set_cons_zero, List.set_cons_succ]
      refine wpAnyH_take (i := 11) (oi := { dst := some 83, op := Op.move (Operand.tmp 82), type := 4, pos := "law.go:64", after := #[{ on := 10, ground := Ground.data }, { on := 8, ground := Ground.chain }], guard := none }) (v := ?_) rfl (by kernel_rfl) (by kernel_rfl) (by kernel_rfl) (fun _ _ _ h => h) (Or.inl ⟨by rfl, ?_⟩) (by assumption) ?_
      rotate_left
      focus (intro w hSw; (try dsimp only at hSw); go_simp; try (with_reducible rfl))
      try simp only [Act.put, List.setIfInBounds_toArray, List.set_cons_zero, List.set_cons_succ]
      refine wpAnyH_take (i := 12) (oi := { dst := some 84, op := Op.move (Operand.tmp 9), type := 42, pos := "law.go:64", after := #[{ on := 11, ground := Ground.guard }], guard := some (11, false) }) (v := ?_) rfl (by kernel_rfl) (by kernel_rfl) (by kernel_rfl) (fun _ _ _ h => h) (Or.inl ⟨by rfl, ?_⟩) (by assumption) ?_
      rotate_left
      focus (intro w hSw; (try dsimp only at hSw); go_simp; try (with_reducible rfl))
      try simp only [Act.put, List.setIfInBounds_toArray, List.set_cons_zero, List.set_cons_succ]
      refine wpAnyH_take (i := 14) (oi := { dst := some 86, op := Op.load 48 (Operand.tmp 10), type := 48, pos := "law.go:64", after := #[{ on := 11, ground := Ground.guard }], guard := some (11, false) }) (v := ?_) rfl (by kernel_rfl) (by kernel_rfl) (by kernel_rfl) (fun _ _ _ h => h) (Or.inl ⟨by rfl, ?_⟩) (by assumption) ?_
      rotate_left
      focus (intro w hSw; (try dsimp only at hSw); go_simp; try (with_reducible rfl))
      try simp only [Act.put, List.setIfInBounds_toArray, List.set_cons_zero, List.set_cons_succ]
      refine wpAnyH_ready (rs := [13]) (by kernel_rfl) (by simp) (AllReadyH.cons (o := { dst := some 85, op := Op.call { callee := Callee.value (Operand.func 34), args := #[Operand.tmp 84], argTypes := #[42] }, type := 4, pos := "law.go:64", after := #[{ on := 12, ground := Ground.data }, { on := 11, ground := Ground.chain }, { on := 11, ground := Ground.guard }], guard := some (11, false) }) rfl (fun K hK => ?_) AllReadyH.nil)
      rw [if_pos (by rfl)]
      go_simp
      (go_at_call 34; refine (HEXT.out _ HG3.out).mono ?_; rintro e Z4 ⟨rfl, hg⟩)
      have HG4 := Lib.hid hg
      clear hg
      go_wp2_with fail
      refine hK.out _ _ HG4.out.s6 (fun hHeld => ?_)
      clear hK K HG3
      try simp only [Act.put, List.setIfInBounds_toArray, List.set_cons_zero, List.set_cons_succ]
      refine wpAnyH_ready (rs := [15]) (by kernel_rfl) (by simp) (AllReadyH.cons (o := { dst := some 87, op := Op.call { callee := Callee.value (Operand.func 35), args := #[Operand.tmp 86, Operand.const (Value.bool true), Operand.const (Value.int IntKind.u8 40)], argTypes := #[48, 4, 5] }, type := 4, pos := "law.go:64", after := #[{ on := 14, ground := Ground.data }, { on := 13, ground := Ground.chain }, { on := 11, ground := Ground.guard }], guard := some (11, false) }) rfl (fun K hK => ?_) AllReadyH.nil)
      rw [if_pos (by rfl)]
      go_simp
      (go_at_call 35; refine (HRON.out _ HG4.out).mono ?_; rintro e Z5 ⟨rfl, t4⟩)
      go_wp2_with fail
      have HG5 := Lib.hid (HG4.out.below t4)
      refine hK.out _ _ HG5.out.s6 (fun hHeld => ?_)
      clear hK K HG4 t4
      try simp only [Act.put, List.setIfInBounds_toArray, List.set_cons_zero, List.set_cons_succ]
      refine wpAnyH_take (i := 16) (oi := { dst := some 88, op := Op.binOp BinOp.neq 4 (Operand.tmp 85) (Operand.tmp 87) 4, type := 4, pos := "law.go:64", after := #[{ on := 13, ground := Ground.data }, { on := 15, ground := Ground.data }, { on := 11, ground := Ground.guard }], guard := some (11, false) }) (v := ?_) rfl (by kernel_rfl) (by kernel_rfl) (by kernel_rfl) (fun _ _ _ h => h) (Or.inl ⟨by rfl, ?_⟩) (by assumption) ?_
      rotate_left
      focus (intro w hSw; (try dsimp only at hSw); go_simp; try (with_reducible rfl))
      try simp only [Act.put, List.setIfInBounds_toArray, List.set_cons_zero, List.set_cons_succ]
      refine wpAnyH_take (i := 17) (oi := { dst := some 89, op := Op.pick (Operand.tmp 83) (Operand.const (Value.bool true)) (Operand.tmp 88), type := 4, pos := "law.go:64", after := #[{ on := 11, ground := Ground.data }, { on := 16, ground := Ground.data }], guard := none }) (v := ?_) rfl (by kernel_rfl) (by kernel_rfl) (by kernel_rfl) (fun _ _ _ h => h) (Or.inl ⟨by rfl, ?_⟩) (by assumption) ?_
      rotate_left
      focus (intro w hSw; (try dsimp only at hSw); go_simp; try (with_reducible rfl))
      try simp only [Act.put, List.setIfInBounds_toArray, List.set_cons_zero, List.set_cons_succ]
      refine wpAnyH_take (i := 18) (oi := { dst := some 90, op := Op.move (Operand.tmp 89), type := 4, pos := "law.go:64", after := #[{ on := 17, ground := Ground.data }, { on := 15, ground := Ground.chain }], guard := none }) (v := ?_) rfl (by kernel_rfl) (by kernel_rfl) (by kernel_rfl) (fun _ _ _ h => h) (Or.inl ⟨by rfl, ?_⟩) (by assumption) ?_
      rotate_left
      focus (intro w hSw; (try dsimp only at hSw); go_simp; try (with_reducible rfl))
      try simp only [Act.put, List.setIfInBounds_toArray, List.set_cons_zero, List.set_cons_succ]
      refine wpAnyH_take (i := 19) (oi := { dst := some 91, op := Op.move (Operand.tmp 9), type := 42, pos := "law.go:64", after := #[{ on := 18, ground := Ground.guard }], guard := some (18, false) }) (v := ?_) rfl (by kernel_rfl) (by kernel_rfl) (by kernel_rfl) (fun _ _ _ h => h) (Or.inl ⟨by rfl, ?_⟩) (by assumption) ?_
      rotate_left
      focus (intro w hSw; (try dsimp only at hSw); go_simp; try (with_reducible rfl))
      try simp only [Act.put, List.setIfInBounds_toArray, List.set_cons_zero, List.set_cons_succ]
      refine wpAnyH_take (i := 21) (oi := { dst := some 93, op := Op.fieldAddr 48 (Operand.tmp 10) 2, type := 0, pos := "law.go:64", after := #[{ on := 18, ground := Ground.guard }], guard := some (18, false) }) (v := ?_) rfl (by kernel_rfl) (by kernel_rfl) (by kernel_rfl) (fun _ _ _ h => h) (Or.inl ⟨by rfl, ?_⟩) (by assumption) ?_
      rotate_left
      focus (intro w hSw; (try dsimp only at hSw); go_simp; try (with_reducible rfl))
      try simp only [Act.put, List.setIfInBounds_toArray, List.set_cons_zero, List.set_cons_succ]
      refine wpAnyH_take (i := 22) (oi := { dst := some 94, op := Op.load 4 (Operand.tmp 93), type := 4, pos := "law.go:64", after := #[{ on := 21, ground := Ground.data }, { on := 18, ground := Ground.guard }], guard := some (18, false) }) (v := ?_) rfl (by kernel_rfl) (by kernel_rfl) (by kernel_rfl) (fun _ _ _ h => h) (Or.inl ⟨by rfl, ?_⟩) (by assumption) ?_
      rotate_left
      focus (intro w hSw; (try dsimp only at hSw); go_simp; try (with_reducible rfl))
      try simp only [Act.put, List.setIfInBounds_toArray, List.set_cons_zero, List.set_cons_succ]
      refine wpAnyH_ready (rs := [20]) (by kernel_rfl) (by simp) (AllReadyH.cons (o := { dst := some 92, op := Op.call { callee := Callee.value (Operand.func 36), args := #[Operand.tmp 91], argTypes := #[42] }, type := 4, pos := "law.go:64", after := #[{ on := 19, ground := Ground.data }, { on := 18, ground := Ground.chain }, { on := 18, ground := Ground.guard }], guard := some (18, false) }) rfl (fun K hK => ?_) AllReadyH.nil)
      rw [if_pos (by rfl)]
      go_simp
      (go_at_call 36; refine (gq_named HG5.out).mono ?_; rintro e Z6 ⟨rfl, hg⟩)
      have HG6 := Lib.hid hg
      clear hg
      go_wp2_with fail
      refine hK.out _ _ HG6.out.s6 (fun hHeld => ?_)
      clear hK K HG5
      try simp only [Act.put, List.setIfInBounds_toArray, List.set_cons_zero, List.set_cons_succ]
      refine wpAnyH_take (i := 23) (oi := { dst := some 95, op := Op.binOp BinOp.neq 4 (Operand.tmp 92) (Operand.tmp 94) 4, type := 4, pos := "law.go:64", after := #[{ on := 20, ground := Ground.data }, { on := 22, ground := Ground.data }, { on := 18, ground := Ground.guard }], guard := some (18, false) }) (v := ?_) rfl (by kernel_rfl) (by kernel_rfl) (by kernel_rfl) (fun _ _ _ h => h) (Or.inl ⟨by rfl, ?_⟩) (by assumption) ?_
      rotate_left
      focus (intro w hSw; (try dsimp only at hSw); go_simp; try (with_reducible rfl))
      try simp only [Act.put, List.setIfInBounds_toArray, List.set_cons_zero, List.set_cons_succ]
      refine wpAnyH_take (i := 24) (oi := { dst := some 96, op := Op.pick (Operand.tmp 90) (Operand.const (Value.bool true)) (Operand.tmp 95), type := 4, pos := "law.go:64", after := #[{ on := 18, ground := Ground.data }, { on := 23, ground := Ground.data }], guard := none }) (v := ?_) rfl (by kernel_rfl) (by kernel_rfl) (by kernel_rfl) (fun _ _ _ h => h) (Or.inl ⟨by rfl, ?_⟩) (by assumption) ?_
      rotate_left
      focus (intro w hSw; (try dsimp only at hSw); go_simp; try (with_reducible rfl))
      try simp only [Act.put, List.setIfInBounds_toArray, List.set_cons_zero, List.set_cons_succ]
      refine wpAnyH_take (i := 25) (oi := { dst := some 97, op := Op.move (Operand.tmp 96), type := 4, pos := "law.go:64", after := #[{ on := 24, ground := Ground.data }, { on := 20, ground := Ground.chain }], guard := none }) (v := ?_) rfl (by kernel_rfl) (by kernel_rfl) (by kernel_rfl) (fun _ _ _ h => h) (Or.inl ⟨by rfl, ?_⟩) (by assumption) ?_
      rotate_left
      focus (intro w hSw; (try dsimp only at hSw); go_simp; try (with_reducible rfl))
      try simp only [Act.put, List.setIfInBounds_toArray, List.set_cons_zero, List.set_cons_succ]
      refine wpAnyH_take (i := 26) (oi := { dst := some 98, op := Op.move (Operand.tmp 9), type := 42, pos := "law.go:64", after := #[{ on := 25, ground := Ground.guard }], guard := some (25, false) }) (v := ?_) rfl (by kernel_rfl) (by kernel_rfl) (by kernel_rfl) (fun _ _ _ h => h) (Or.inl ⟨by rfl, ?_⟩) (by assumption) ?_
      rotate_left
      focus (intro w hSw; (try dsimp only at hSw); go_simp; try (with_reducible rfl))
      try simp only [Act.put, List.setIfInBounds_toArray, List.set_cons_zero, List.set_cons_succ]
      refine wpAnyH_take (i := 28) (oi := { dst := some 100, op := Op.fieldAddr 48 (Operand.tmp 10) 0, type := 0, pos := "law.go:64", after := #[{ on := 25, ground := Ground.guard }], guard := some (25, false) }) (v := ?_) rfl (by kernel_rfl) (by kernel_rfl) (by kernel_rfl) (fun _ _ _ h => h) (Or.inl ⟨by rfl, ?_⟩) (by assumption) ?_
      rotate_left
      focus (intro w hSw; (try dsimp only at hSw); go_simp; try (with_reducible rfl))
      try simp only [Act.put, List.setIfInBounds_toArray, List.set_cons_zero, List.set_cons_succ]
      refine wpAnyH_take (i := 29) (oi := { dst := some 101, op := Op.load 9 (Operand.tmp 100), type := 9, pos := "law.go:64", after := #[{ on := 28, ground := Ground.data }, { on := 25, ground := Ground.guard }], guard := some (25, false) }) (v := ?_) rfl (by kernel_rfl) (by kernel_rfl) (by kernel_rfl) (fun _ _ _ h => h) (Or.inl ⟨by rfl, ?_⟩) (by assumption) ?_
      rotate_left
      focus (intro w hSw; (try dsimp only at hSw); go_simp; try (with_reducible rfl))
      try simp only [Act.put, List.setIfInBounds_toArray, List.set_cons_zero, List.set_cons_succ]
      refine wpAnyH_ready (rs := [27]) (by kernel_rfl) (by simp) (AllReadyH.cons (o := { dst := some 99, op := Op.call { callee := Callee.value (Operand.func 37), args := #[Operand.tmp 98], argTypes := #[42] }, type := 9, pos := "law.go:64", after := #[{ on := 26, ground := Ground.data }, { on := 25, ground := Ground.chain }, { on := 25, ground := Ground.guard }], guard := some (25, false) }) rfl (fun K hK => ?_) AllReadyH.nil)
      rw [if_pos (by rfl)]
      go_simp
      (go_at_call 37; refine (gq_name HG6.out).mono ?_; rintro e Z7 ⟨rfl, hg⟩)
      have HG7 := Lib.hid hg
      clear hg
      go_wp2_with fail
      refine hK.out _ _ HG7.out.s6 (fun hHeld => ?_)
      clear hK K HG6
      try simp only [Act.put, List.setIfInBounds_toArray, List.set_cons_zero, List.set_cons_succ]
      refine wpAnyH_take (i := 30) (oi := { dst := some 102, op := Op.binOp BinOp.neq 9 (Operand.tmp 99) (Operand.tmp 101) 9, type := 4, pos := "law.go:64", after := #[{ on := 27, ground := Ground.data }, { on := 29, ground := Ground.data }, { on := 25, ground := Ground.guard }], guard := some (25, false) }) (v := ?_) rfl (by kernel_rfl) (by kernel_rfl) (by kernel_rfl) (fun _ _ _ h => h) (Or.inl ⟨by rfl, ?_⟩) (by assumption) ?_
      rotate_left
      focus (intro w hSw; (try dsimp only at hSw); go_simp; try (with_reducible rfl))
      try simp only [Act.put, List.setIfInBounds_toArray, List.set_cons_zero, List.set_cons_succ]
      refine wpAnyH_take (i := 31) (oi := { dst := some 103, op := Op.pick (Operand.tmp 97) (Operand.const (Value.bool true)) (Operand.tmp 102), type := 4, pos := "law.go:64", after := #[{ on := 25, ground := Ground.data }, { on := 30, ground := Ground.data }], guard := none }) (v := ?_) rfl (by kernel_rfl) (by kernel_rfl) (by kernel_rfl) (fun _ _ _ h => h) (Or.inl ⟨by rfl, ?_⟩) (by assumption) ?_
      rotate_left
      focus (intro w hSw; (try dsimp only at hSw); go_simp; try (with_reducible rfl))
      try simp only [Act.put, List.setIfInBounds_toArray, List.set_cons_zero, List.set_cons_succ]
      refine wpAnyH_take (i := 32) (oi := { dst := some 104, op := Op.move (Operand.tmp 103), type := 4, pos := "law.go:64", after := #[{ on := 31, ground := Ground.data }, { on := 27, ground := Ground.chain }], guard := none }) (v := ?_) rfl (by kernel_rfl) (by kernel_rfl) (by kernel_rfl) (fun _ _ _ h => h) (Or.inl ⟨by rfl, ?_⟩) (by assumption) ?_
      rotate_left
      focus (intro w hSw; (try dsimp only at hSw); go_simp; try (with_reducible rfl))
      try simp only [Act.put, List.setIfInBounds_toArray, List.set_cons_zero, List.set_cons_succ]
      refine wpAnyH_take (i := 33) (oi := { dst := some 105, op := Op.move (Operand.tmp 9), type := 42, pos := "law.go:64", after := #[{ on := 32, ground := Ground.guard }], guard := some (32, false) }) (v := ?_) rfl (by kernel_rfl) (by kernel_rfl) (by kernel_rfl) (fun _ _ _ h => h) (Or.inl ⟨by rfl, ?_⟩) (by assumption) ?_
      rotate_left
      focus (intro w hSw; (try dsimp only at hSw); go_simp; try (with_reducible rfl))
      try simp only [Act.put, List.setIfInBounds_toArray, List.set_cons_zero, List.set_cons_succ]
      refine wpAnyH_take (i := 35) (oi := { dst := some 107, op := Op.fieldAddr 26 (Operand.tmp 12) 2, type := 0, pos := "law.go:64", after := #[{ on := 32, ground := Ground.guard }], guard := some (32, false) }) (v := ?_) rfl (by kernel_rfl) (by kernel_rfl) (by kernel_rfl) (fun _ _ _ h => h) (Or.inl ⟨by rfl, ?_⟩) (by assumption) ?_
      rotate_left
      focus (intro w hSw; (try dsimp only at hSw); go_simp; try (with_reducible rfl))
      try simp only [Act.put, List.setIfInBounds_toArray, List.set_cons_zero, List.set_cons_succ]
      refine wpAnyH_take (i := 36) (oi := { dst := some 108, op := Op.load 5 (Operand.tmp 107), type := 5, pos := "law.go:64", after := #[{ on := 35, ground := Ground.data }, { on := 32, ground := Ground.guard }], guard := some (32, false) }) (v := ?_) rfl (by kernel_rfl) (by kernel_rfl) (by kernel_rfl) (fun _ _ _ h => h) (Or.inl ⟨by rfl, ?_⟩) (by assumption) ?_
      rotate_left
      focus (intro w hSw; (try dsimp only at hSw); go_simp; try (with_reducible rfl))
      try simp only [Act.put, List.setIfInBounds_toArray, List.set_cons_zero, List.set_cons_succ]
      refine wpAnyH_take (i := 38) (oi := { dst := some 110, op := Op.fieldAddr 48 (Operand.tmp 10) 1, type := 0, pos := "law.go:64", after := #[{ on := 32, ground := Ground.guard }], guard := some (32, false) }) (v := ?_) rfl (by kernel_rfl) (by kernel_rfl) (by kernel_rfl) (fun _ _ _ h => h) (Or.inl ⟨by rfl, ?_⟩) (by assumption) ?_
      rotate_left
      focus (intro w hSw; (try dsimp only at hSw); go_simp; try (with_reducible rfl))
      try simp only [Act.put, List.setIfInBounds_toArray, List.set_cons_zero, List.set_cons_succ]
      refine wpAnyH_take (i := 39) (oi := { dst := some 111, op := Op.load 46 (Operand.tmp 110), type := 46, pos := "law.go:64", after := #[{ on := 38, ground := Ground.data }, { on := 32, ground := Ground.guard }], guard := some (32, false) }) (v := ?_) rfl (by kernel_rfl) (by kernel_rfl) (by kernel_rfl) (fun _ _ _ h => h) (Or.inl ⟨by rfl, ?_⟩) (by assumption) ?_
      rotate_left
      focus (intro w hSw; (try dsimp only at hSw); go_simp; try (with_reducible rfl))
      try simp only [Act.put, List.setIfInBounds_toArray, List.set_cons_zero, List.set_cons_succ]
      refine wpAnyH_take (i := 40) (oi := { dst := some 112, op := Op.fieldAddr 26 (Operand.tmp 12) 2, type := 0, pos := "law.go:64", after := #[{ on := 32, ground := Ground.guard }], guard := some (32, false) }) (v := ?_) rfl (by kernel_rfl) (by kernel_rfl) (by kernel_rfl) (fun _ _ _ h => h) (Or.inl ⟨by rfl, ?_⟩) (by assumption) ?_
      rotate_left
      focus (intro w hSw; (try dsimp only at hSw); go_simp; try (with_reducible rfl))
      try simp only [Act.put, List.setIfInBounds_toArray, List.set_cons_zero, List.set_cons_succ]
      refine wpAnyH_take (i := 41) (oi := { dst := some 113, op := Op.load 5 (Operand.tmp 112), type := 5, pos := "law.go:64", after := #[{ on := 40, ground := Ground.data }, { on := 32, ground := Ground.guard }], guard := some (32, false) }) (v := ?_) rfl (by kernel_rfl) (by kernel_rfl) (by kernel_rfl) (fun _ _ _ h => h) (Or.inl ⟨by rfl, ?_⟩) (by assumption) ?_
      rotate_left
      focus (intro w hSw; (try dsimp only at hSw); go_simp; try (with_reducible rfl))
      try simp only [Act.put, List.setIfInBounds_toArray, List.set_cons_zero, List.set_cons_succ]
      refine wpAnyH_ready (rs := [34]) (by kernel_rfl) (by simp) (AllReadyH.cons (o := { dst := some 106, op := Op.call { callee := Callee.value (Operand.func 38), args := #[Operand.tmp 105], argTypes := #[42] }, type := 60, pos := "law.go:64", after := #[{ on := 33, ground := Ground.data }, { on := 32, ground := Ground.chain }, { on := 32, ground := Ground.guard }], guard := some (32, false) }) rfl (fun K hK => ?_) AllReadyH.nil)
      rw [if_pos (by rfl)]
      go_simp
      (go_at_call 38; refine (gq_options HG7.out).mono ?_; rintro e Z8 ⟨rfl, hg⟩)
      have HG8 := Lib.hid hg
      clear hg
      go_wp2_with fail
      refine hK.out _ _ HG8.out.s6 (fun hHeld => ?_)
      clear hK K HG7
      try simp only [Act.put, List.setIfInBounds_toArray, List.set_cons_zero, List.set_cons_succ]
      refine wpAnyH_ready (rs := [37]) (by kernel_rfl) (by simp) (AllReadyH.cons (o := { dst := some 109, op := Op.call { callee := Callee.value (Operand.func 39), args := #[Operand.tmp 106, Operand.const (Value.bool true), Operand.tmp 108], argTypes := #[60, 4, 5] }, type := 3, pos := "law.go:64", after := #[{ on := 34, ground := Ground.data }, { on := 36, ground := Ground.data }, { on := 34, ground := Ground.chain }, { on := 32, ground := Ground.guard }], guard := some (32, false) }) rfl (fun K hK => ?_) AllReadyH.nil)
      rw [if_pos (by rfl)]
      go_simp
      (go_at_call 39; refine (HSTA.out _ HG8.out).mono ?_; rintro e Z9 ⟨rfl, hg⟩)
      have HG9 := Lib.hid hg
      clear hg
      go_wp2_with fail
      refine hK.out _ _ HG9.out.s6 (fun hHeld => ?_)
      clear hK K HG8
      try simp only [Act.put, List.setIfInBounds_toArray, List.set_cons_zero, List.set_cons_succ]
      refine wpAnyH_ready (rs := [42]) (by kernel_rfl) (by simp) (AllReadyH.cons (o := { dst := some 114, op := Op.call { callee := Callee.value (Operand.func 40), args := #[Operand.tmp 111, Operand.const (Value.bool true), Operand.tmp 113], argTypes := #[46, 4, 5] }, type := 3, pos := "law.go:64", after := #[{ on := 39, ground := Ground.data }, { on := 41, ground := Ground.data }, { on := 37, ground := Ground.chain }, { on := 32, ground := Ground.guard }], guard := some (32, false) }) rfl (fun K hK => ?_) AllReadyH.nil)
      rw [if_pos (by rfl)]
      go_simp
      (go_at_call 40; refine (HRST.out _ HG9.out).mono ?_; rintro e Z10 ⟨rfl, t9⟩)
      go_wp2_with fail
      have HG10 := Lib.hid (HG9.out.below t9)
      refine hK.out _ _ HG10.out.s6 (fun hHeld => ?_)
      clear hK K HG9 t9
      try simp only [Act.put, List.setIfInBounds_toArray, List.set_cons_zero, List.set_cons_succ]
      refine wpAnyH_take (i := 43) (oi := { dst := some 115, op := Op.binOp BinOp.neq 3 (Operand.tmp 109) (Operand.tmp 114) 3, type := 4, pos := "law.go:64", after := #[{ on := 37, ground := Ground.data }, { on := 42, ground := Ground.data }, { on := 32, ground := Ground.guard }], guard := some (32, false) }) (v := ?_) rfl (by kernel_rfl) (by kernel_rfl) (by kernel_rfl) (fun _ _ _ h => h) (Or.inl ⟨by rfl, ?_⟩) (by assumption) ?_
      rotate_left
      focus (intro w hSw; (try dsimp only at hSw); go_simp; try (with_reducible rfl))
      try simp only [Act.put, List.setIfInBounds_toArray, List.set_cons_zero, List.set_cons_succ]
      refine wpAnyH_take (i := 44) (oi := { dst := some 116, op := Op.pick (Operand.tmp 104) (Operand.const (Value.bool true)) (Operand.tmp 115), type := 4, pos := "law.go:64", after := #[{ on := 32, ground := Ground.data }, { on := 43, ground := Ground.data }], guard := none }) (v := ?_) rfl (by kernel_rfl) (by kernel_rfl) (by kernel_rfl) (fun _ _ _ h => h) (Or.inl ⟨by rfl, ?_⟩) (by assumption) ?_
      rotate_left
      focus (intro w hSw; (try dsimp only at hSw); go_simp; try (with_reducible rfl))
      try simp only [Act.put, List.setIfInBounds_toArray, List.set_cons_zero, List.set_cons_succ]
      refine wpAnyH_done (by kernel_rfl) ?_ _
      have HGL := Lib.hid HG10.out
      go_wp2_with fail
      obtain ⟨n9, hf9, hn9⟩ := HGL.out
      go_roundw
      case rel => exact ⟨k + 1, S3, n9, nd2, xa, xn, xc, R3, by omega, by go_num, Lib.hid hf9.lq, HLK3, Lib.hid hn9, HL3⟩
      case measure => simp [intOf]; omega
    · obtain rfl : n = k := by omega
      have HO := Lib.hid HQ.out.old
      go_wp2_with fail
      go_ret
      exact ⟨rfl, HO.out⟩
end Go.Proofs.Ytimidoaafllnkaa.Talk
