/-
  The walk of OrderSames.
-/
import Derived.Test.YtjeknociobbhpaaDoorOrdAL
import Derived.Test.YtjeknociobbhpaaDoorOrdSB
import Derived.Test.YtjeknociobbhpaaDoorOrdSC
import Derived.Test.YtjeknociobbhpaaDoorOrdSD
import Derived.Test.YtjeknociobbhpaaDoorOrderBackWalk
import Derived.Test.YtjeknociobbhpaaDoorSame
namespace Go.Proofs.YtjeknociobbhpaaDoor.Ord
open Go.RowKit Base Iac
set_option linter.unusedVariables false
set_option linter.unusedSimpArgs false

/-- Two boxes of orders, and all that was. -/
structure TwoQ (w : World) (ob pb : Nat) (xs ys : Array Value) (Z : World) : Prop where
  a : Z.heap[ob]? = some (.cells xs 35 (0, 0))
  b : Z.heap[pb]? = some (.cells ys 35 (0, 0))
  old : Below w.heap.size w Z
section
variable {w Z Z' : World} {ob pb : Nat} {xs ys : Array Value}
theorem TwoQ.below (h : TwoQ w ob pb xs ys Z) (t : Below Z.heap.size Z Z') : TwoQ w ob pb xs ys Z' := ⟨(t.block ob (lt_of_block h.a)).trans h.a, (t.block pb (lt_of_block h.b)).trans h.b, h.old.trans (t.mono h.old.size)⟩
theorem TwoQ.drew (h : TwoQ w ob pb xs ys Z) : TwoQ w ob pb xs ys Z.drew := h.below (Below.refl _ _).drew
end
section
variable {w Z : World} {ob pb : Nat} {x0 x1 x2 x3 x4 x5 y0 y1 y2 y3 y4 y5 : Value}
theorem TwoQ.s (h : TwoQ w ob pb #[x0, x1, x2, x3, x4, x5] #[y0, y1, y2, y3, y4, y5] Z) : Z.cell? ⟨ob, 0, none⟩ = some x0 ∧ Z.cell? ⟨ob, 1, none⟩ = some x1 ∧ Z.cell? ⟨ob, 2, none⟩ = some x2 ∧ Z.cell? ⟨ob, 3, none⟩ = some x3 ∧ Z.cell? ⟨ob, 4, none⟩ = some x4 ∧ Z.cell? ⟨ob, 5, none⟩ = some x5 ∧ Z.cell? ⟨pb, 0, none⟩ = some y0 ∧ Z.cell? ⟨pb, 1, none⟩ = some y1 ∧ Z.cell? ⟨pb, 2, none⟩ = some y2 ∧ Z.cell? ⟨pb, 3, none⟩ = some y3 ∧ Z.cell? ⟨pb, 4, none⟩ = some y4 ∧ Z.cell? ⟨pb, 5, none⟩ = some y5 ∧ TwoQ w ob pb #[x0, x1, x2, x3, x4, x5] #[y0, y1, y2, y3, y4, y5] Z := by
  obtain ⟨c0, c1, c2, c3, c4, c5, _⟩ := cells6 h.a
  obtain ⟨d0, d1, d2, d3, d4, d5, _⟩ := cells6 h.b
  exact ⟨c0, c1, c2, c3, c4, c5, d0, d1, d2, d3, d4, d5, h⟩
theorem TwoQ.of_s (h : Z.cell? ⟨ob, 0, none⟩ = some x0 ∧ Z.cell? ⟨ob, 1, none⟩ = some x1 ∧ Z.cell? ⟨ob, 2, none⟩ = some x2 ∧ Z.cell? ⟨ob, 3, none⟩ = some x3 ∧ Z.cell? ⟨ob, 4, none⟩ = some x4 ∧ Z.cell? ⟨ob, 5, none⟩ = some x5 ∧ Z.cell? ⟨pb, 0, none⟩ = some y0 ∧ Z.cell? ⟨pb, 1, none⟩ = some y1 ∧ Z.cell? ⟨pb, 2, none⟩ = some y2 ∧ Z.cell? ⟨pb, 3, none⟩ = some y3 ∧ Z.cell? ⟨pb, 4, none⟩ = some y4 ∧ Z.cell? ⟨pb, 5, none⟩ = some y5 ∧ TwoQ w ob pb #[x0, x1, x2, x3, x4, x5] #[y0, y1, y2, y3, y4, y5] Z) : TwoQ w ob pb #[x0, x1, x2, x3, x4, x5] #[y0, y1, y2, y3, y4, y5] Z := h.2.2.2.2.2.2.2.2.2.2.2.2
end
theorem no_orders (W : World) : (W.alloc (.cells #[] 35)).ownsRow W.heap.size 35 6 (.slice (some ⟨W.heap.size, 0, none⟩) 0 0) 0 [] :=
  ⟨rfl, .inr ⟨W.heap.size, 0, #[], rfl, Nat.le_refl _, heap_alloc_new W _, Nat.le_refl _, by simp [maxLen], rfl, rfl⟩⟩
def OneQ (w : World) (ob : Nat) (xs : Array Value) (Z : World) : Prop := Z.heap[ob]? = some (.cells xs 35 (0, 0)) ∧ Below w.heap.size w Z
/-- What the law knows of an order that came in. -/
structure OrIn (o : Or) : Prop where
  ok : Open.OrOk o
  ps : o.pairs.length ≤ 300
  ds : o.data.length ≤ 300
theorem OrIn.ok2 {o : Or} (h : OrIn o) : o.Ok := ⟨by have := h.ps; omega, h.ok.db⟩
theorem OrIn.ok4 {o : Or} (h : OrIn o) : o.Ok4 := ⟨by have := h.ps; omega, by have := h.ds; omega, h.ok.ad.1, h.ok.ad.2, h.ok.by_.1, by have := h.ok.by_.2; omega⟩
theorem text_in {w : World} {o : Or} {V : Value} (h : OrR w o V) (hi : OrIn o) (ht : ∀ w', Below w.heap.size w w' → Lib.TabBelow Tryd.prog w.heap.size w' "internal/strconv.uint64pow10" .u64 Lib.pow10Tab) : Calls Tryd.prog 21 #[V] w fun e w' => e = .returned (.string (strOfNums (textL o))) ∧ Below w.heap.size w w' :=
  text_any h hi.ps hi.ds hi.ok.ad.1 hi.ok.ad.2 hi.ok.by_.1 hi.ok.by_.2 hi.ok.pb hi.ok.db ht
set_option maxRecDepth 100000 in
set_option maxHeartbeats 32000000 in
theorem orderSames_law {w : World} (htab : Lib.TabIs Tryd.prog w "internal/strconv.uint64pow10" .u64 Lib.pow10Tab) (v : Value) (A : List Or) (hA : OrdsAt2 w v A ∧ A.length ≤ maxLen ∧ ∀ o ∈ A, Open.OrOk o) (u : Value) (B : List Or) (hB : OrdsAt2 w u B ∧ B.length ≤ maxLen ∧ ∀ o ∈ B, Open.OrOk o) (n : Int) (hn : (Lit.int .i64 n).wf = true) : Calls Tryd.prog 6 #[v, u, .int .i64 n] w fun e W' => e = .returned (.bool true) ∧ Below w.heap.size w W' := by
  obtain ⟨hA, hAm, hAo⟩ := hA
  obtain ⟨hB, hBm, hBo⟩ := hB
  have HA := Lib.hid hA
  have HB := Lib.hid hB
  have HAM := Lib.hid hAm
  have HBM := Lib.hid hBm
  have HALI := Lib.hid (ord_alive w)
  obtain ⟨S1, hS1⟩ : ∃ S, S = smB A := ⟨_, rfl⟩
  obtain ⟨S2, hS2⟩ : ∃ S, S = smB B := ⟨_, rfl⟩
  have HS1 := Lib.hid hS1
  have HS2 := Lib.hid hS2
  by_cases h1 : S1 = true
  rotate_left
  · obtain rfl : S1 = false := by simpa using h1
    clear h1 hS1 hS2 hA hB hAm hBm hAo hBo htab hn
    go_enter Tryd.func6, Tryd.ntmps6
    go_wp2_with fail
    refine HALI.out.mono ?_
    rintro e W1 ⟨rfl, b1⟩
    have HB1 := Lib.hid b1
    have HL1 := Lib.hid (HA.out.below b1)
    clear b1
    go_wp2_with fail
    refine (small_any HL1.out HAM.out).mono ?_
    rw [← HS1.out]
    rintro e W2 ⟨rfl, b2⟩
    have HB2 := Lib.hid (HB1.out.trans (b2.mono HB1.out.size))
    clear b2
    go_wp2_with fail
    go_ret
    exact ⟨rfl, HB2.out⟩
  subst h1
  by_cases h2 : S2 = true
  rotate_left
  · obtain rfl : S2 = false := by simpa using h2
    clear h2 hS1 hS2 hA hB hAm hBm hAo hBo htab hn
    go_enter Tryd.func6, Tryd.ntmps6
    go_wp2_with fail
    refine HALI.out.mono ?_
    rintro e W1 ⟨rfl, b1⟩
    have HB1 := Lib.hid b1
    have HL1 := Lib.hid (HA.out.below b1)
    clear b1
    go_wp2_with fail
    refine (small_any HL1.out HAM.out).mono ?_
    rw [← HS1.out]
    rintro e W2 ⟨rfl, b2⟩
    have HB2 := Lib.hid (HB1.out.trans (b2.mono HB1.out.size))
    clear b2
    go_wp2_with fail
    refine (small_any (HB.out.below HB2.out) HBM.out).mono ?_
    rw [← HS2.out]
    rintro e W3 ⟨rfl, b3⟩
    have HB3 := Lib.hid (HB2.out.trans (b3.mono HB2.out.size))
    clear b3
    go_wp2_with fail
    go_ret
    exact ⟨rfl, HB3.out⟩
  subst h2
  obtain ⟨hs40, hs300⟩ := smB_ok hS1.symm
  obtain ⟨ht40, ht300⟩ := smB_ok hS2.symm
  have HAI : Hid (∀ o ∈ A, OrIn o) := Lib.hid fun o ho => ⟨hAo o ho, (hs300 o ho).1, (hs300 o ho).2⟩
  have HBI : Hid (∀ o ∈ B, OrIn o) := Lib.hid fun o ho => ⟨hBo o ho, (ht300 o ho).1, (ht300 o ho).2⟩
  have HA4 : Hid (∀ o ∈ A, o.Ok4) := Lib.hid fun o ho => (HAI.out o ho).ok4
  have HB4 : Hid (∀ o ∈ B, o.Ok4) := Lib.hid fun o ho => (HBI.out o ho).ok4
  have HLA := Lib.hid (wBytes_few n A hs40 hs300)
  have HLB := Lib.hid (wBytes_few n B ht40 ht300)
  have H40 := Lib.hid hs40
  have T40 := Lib.hid ht40
  have HTAB := Lib.hid htab
  obtain ⟨PA, hPA, hIA⟩ := hA.rows
  obtain ⟨PB, hPB, hIB⟩ := hB.rows
  have HPA := Lib.hid hPA
  have HPB := Lib.hid hPB
  have HIA := Lib.hid hIA
  have HIB := Lib.hid hIB
  obtain ⟨va, vc, rfl, hcA⟩ := id hA
  obtain ⟨ua, uc, rfl, hcB⟩ := id hB
  have HCA := Lib.hid hcA
  have HCB := Lib.hid hcB
  obtain ⟨an, han⟩ : ∃ m, m = A.length := ⟨_, rfl⟩
  obtain ⟨bn, hbn⟩ : ∃ m, m = B.length := ⟨_, rfl⟩
  have HAN := Lib.hid han
  have HBN := Lib.hid hbn
  rw [← han] at HA HIA ⊢
  rw [← hbn] at HB HIB ⊢
  have hap : PA.length = an := by rw [han, ← hPA, List.length_map]
  have hbp : PB.length = bn := by rw [hbn, ← hPB, List.length_map]
  have HAP := Lib.hid hap
  have HBP := Lib.hid hbp
  have ha40 : an ≤ 40 := by omega
  have hb40 : bn ≤ 40 := by omega
  clear hS1 hS2 hA hB hAm hBm hAo hBo htab hn hs40 hs300 ht40 ht300 hPA hPB hIA hIB hcA hcB han hbn hap hbp
  go_enter Tryd.func6, Tryd.ntmps6
  go_wp2_with fail
  refine HALI.out.mono ?_
  rintro e W1 ⟨rfl, b1⟩
  have HB1 := Lib.hid b1
  clear b1
  go_wp2_with fail
  refine (small_any (HA.out.below HB1.out) HAM.out).mono ?_
  rw [← HS1.out]
  rintro e W2 ⟨rfl, b2⟩
  have HB2 := Lib.hid (HB1.out.trans (b2.mono HB1.out.size))
  clear b2
  go_wp2_with fail
  refine (small_any (HB.out.below HB2.out) HBM.out).mono ?_
  rw [← HS2.out]
  rintro e W3 ⟨rfl, b3⟩
  have HB3 := Lib.hid (HB2.out.trans (b3.mono HB2.out.size))
  clear b3 HB1 HB2
  go_upto_region 6 with fail
  go_loopw [29] (fun i wr => ∃ j : Nat, j ≤ an ∧ i = .int .i64 j ∧ Hid (Below w.heap.size w wr)) (fun i _ => an - (intOf i).toNat)
  case atStart => exact ⟨0, by omega, rfl, HB3⟩
  case round =>
    obtain ⟨j, hj, rfl, hold⟩ := hrel
    clear HB3
    by_cases hjn : j < an
    · have hjni : (j : Int) < (an : Int) := by omega
      have hj0 : (0 : Int) ≤ (j : Int) := Int.natCast_nonneg _
      obtain ⟨o, hoo⟩ : ∃ o, A[j]? = some o := ⟨_, List.getElem?_eq_getElem (by rw [← HAN.out]; exact hjn)⟩
      obtain ⟨g, off, rfl, hg, hc⟩ := HCA.out (by intro e; rw [e] at hoo; simp at hoo)
      obtain ⟨vp, vd, hcell, hpp, hpd, hdz⟩ := hc j o hoo
      have HOI := Lib.hid (HAI.out o (List.mem_of_getElem? hoo))
      obtain ⟨d0, d1, d2, d3, d4, d5⟩ := OC.below hcell hold.out
      obtain ⟨pa, pc, rfl⟩ := hpp.form
      obtain ⟨da, dc, rfl⟩ : ∃ a c, vd = .slice a o.data.length c := by obtain ⟨a, c, e, _⟩ := hpd; exact ⟨a, c, e⟩
      have HOR : Hid (OrR w o (.agg #[.int .u8 o.kind, .int .i64 o.addr, .int .u8 o.byte, .bool o.ge, .slice pa o.pairs.length pc, .slice da o.data.length dc])) := Lib.hid ⟨_, _, rfl, hpp, hpd⟩
      obtain ⟨pn, hpn⟩ : ∃ pn, pn = o.pairs.length := ⟨_, rfl⟩
      obtain ⟨dn, hdn⟩ : ∃ dn, dn = o.data.length := ⟨_, rfl⟩
      rw [← hpn] at d4 HOR
      rw [← hdn] at d5 HOR
      obtain ⟨ka, hka⟩ : ∃ x, x = o.kind := ⟨_, rfl⟩
      obtain ⟨aa1, haa⟩ : ∃ x, x = o.addr := ⟨_, rfl⟩
      obtain ⟨ba1, hba⟩ : ∃ x, x = o.byte := ⟨_, rfl⟩
      obtain ⟨ga, hga⟩ : ∃ x, x = o.ge := ⟨_, rfl⟩
      rw [← hka] at d0 HOR
      rw [← haa] at d1 HOR
      rw [← hba] at d2 HOR
      rw [← hga] at d3 HOR
      clear hcell hpp hpd hdz hoo hc hg hpn hdn hka haa hba hga
      have hal := below_alloc wr (.cells #[.int .u8 ka, .int .i64 aa1, .int .u8 ba1, .bool ga, .slice pa pn pc, .slice da dn dc] 35)
      have hnw := heap_alloc_new wr (.cells #[.int .u8 ka, .int .i64 aa1, .int .u8 ba1, .bool ga, .slice pa pn pc, .slice da dn dc] 35)
      obtain ⟨V1, hV1⟩ : ∃ V1, V1 = wr.alloc (.cells #[.int .u8 ka, .int .i64 aa1, .int .u8 ba1, .bool ga, .slice pa pn pc, .slice da dn dc] 35) := ⟨_, rfl⟩
      obtain ⟨ob, hob⟩ : ∃ ob, ob = wr.heap.size := ⟨_, rfl⟩
      rw [← hV1] at hal hnw
      rw [← hob] at hnw
      have HV1 := Lib.hid hV1.symm
      have HOB := Lib.hid hob.symm
      have HONE : Hid (OneQ w ob #[.int .u8 ka, .int .i64 aa1, .int .u8 ba1, .bool ga, .slice pa pn pc, .slice da dn dc] V1) := Lib.hid ⟨hnw, hold.out.trans (hal.mono hold.out.size)⟩
      clear hal hnw hV1 hob
      go_upto_region 9 with fail
      rw [HV1.out, HOB.out]
      clear d0 d1 d2 d3 d4 d5
      go_loopw [35] (fun i wx => ∃ m : Nat, m ≤ bn ∧ i = .int .i64 m ∧ Hid (OneQ w ob #[.int .u8 ka, .int .i64 aa1, .int .u8 ba1, .bool ga, .slice pa pn pc, .slice da dn dc] wx)) (fun i _ => bn - (intOf i).toNat)
      case atStart => exact ⟨0, by omega, rfl, HONE⟩
      case round =>
        obtain ⟨m, hm, rfl, hone⟩ := hrel
        clear HONE
        by_cases hmn : m < bn
        · have hmni : (m : Int) < (bn : Int) := by omega
          have hm0 : (0 : Int) ≤ (m : Int) := Int.natCast_nonneg _
          obtain ⟨q, hqq⟩ : ∃ q, B[m]? = some q := ⟨_, List.getElem?_eq_getElem (by rw [← HBN.out]; exact hmn)⟩
          obtain ⟨g2, off2, rfl, hg2, hc2⟩ := HCB.out (by intro e; rw [e] at hqq; simp at hqq)
          obtain ⟨vq, ve, hcell, hpp, hpd, hdz⟩ := hc2 m q hqq
          have HQI := Lib.hid (HBI.out q (List.mem_of_getElem? hqq))
          obtain ⟨d0, d1, d2, d3, d4, d5⟩ := OC.below hcell hone.out.2
          obtain ⟨qa, qc, rfl⟩ := hpp.form
          obtain ⟨ea, ec, rfl⟩ : ∃ a c, ve = .slice a q.data.length c := by obtain ⟨a, c, e, _⟩ := hpd; exact ⟨a, c, e⟩
          have HQR : Hid (OrR w q (.agg #[.int .u8 q.kind, .int .i64 q.addr, .int .u8 q.byte, .bool q.ge, .slice qa q.pairs.length qc, .slice ea q.data.length ec])) := Lib.hid ⟨_, _, rfl, hpp, hpd⟩
          obtain ⟨qn, hpn⟩ : ∃ pn, pn = q.pairs.length := ⟨_, rfl⟩
          obtain ⟨en, hdn⟩ : ∃ dn, dn = q.data.length := ⟨_, rfl⟩
          rw [← hpn] at d4 HQR
          rw [← hdn] at d5 HQR
          obtain ⟨kb, hka⟩ : ∃ x, x = q.kind := ⟨_, rfl⟩
          obtain ⟨ab1, haa⟩ : ∃ x, x = q.addr := ⟨_, rfl⟩
          obtain ⟨bb1, hba⟩ : ∃ x, x = q.byte := ⟨_, rfl⟩
          obtain ⟨gb, hga⟩ : ∃ x, x = q.ge := ⟨_, rfl⟩
          rw [← hka] at d0 HQR
          rw [← haa] at d1 HQR
          rw [← hba] at d2 HQR
          rw [← hga] at d3 HQR
          clear hcell hpp hpd hdz hqq hc2 hg2 hpn hdn hka haa hba hga
          have hal := below_alloc wr (.cells #[.int .u8 kb, .int .i64 ab1, .int .u8 bb1, .bool gb, .slice qa qn qc, .slice ea en ec] 35)
          have hnw := heap_alloc_new wr (.cells #[.int .u8 kb, .int .i64 ab1, .int .u8 bb1, .bool gb, .slice qa qn qc, .slice ea en ec] 35)
          obtain ⟨V2, hV2⟩ : ∃ V2, V2 = wr.alloc (.cells #[.int .u8 kb, .int .i64 ab1, .int .u8 bb1, .bool gb, .slice qa qn qc, .slice ea en ec] 35) := ⟨_, rfl⟩
          obtain ⟨pb, hpb⟩ : ∃ pb, pb = wr.heap.size := ⟨_, rfl⟩
          rw [← hV2] at hal hnw
          rw [← hpb] at hnw
          have HV2 := Lib.hid hV2.symm
          have HPBX := Lib.hid hpb.symm
          have HTQ : Hid (TwoQ w ob pb #[.int .u8 ka, .int .i64 aa1, .int .u8 ba1, .bool ga, .slice pa pn pc, .slice da dn dc] #[.int .u8 kb, .int .i64 ab1, .int .u8 bb1, .bool gb, .slice qa qn qc, .slice ea en ec] V2) := Lib.hid ⟨(hal.block ob (lt_of_block hone.out.1)).trans hone.out.1, hnw, hone.out.2.trans (hal.mono hone.out.2.size)⟩
          clear hal hnw hV2 hpb hone
          obtain ⟨x, hx⟩ : ∃ x, x = sameO o q := ⟨_, rfl⟩
          obtain ⟨T1, hT1⟩ : ∃ T, T = strOfNums (textL o) := ⟨_, rfl⟩
          obtain ⟨T2, hT2⟩ : ∃ T, T = strOfNums (textL q) := ⟨_, rfl⟩
          have HS1 : Hid (∀ Z, TwoQ w ob pb #[.int .u8 ka, .int .i64 aa1, .int .u8 ba1, .bool ga, .slice pa pn pc, .slice da dn dc] #[.int .u8 kb, .int .i64 ab1, .int .u8 bb1, .bool gb, .slice qa qn qc, .slice ea en ec] Z → Calls Tryd.prog 20 #[.agg #[.int .u8 ka, .int .i64 aa1, .int .u8 ba1, .bool ga, .slice pa pn pc, .slice da dn dc], .agg #[.int .u8 kb, .int .i64 ab1, .int .u8 bb1, .bool gb, .slice qa qn qc, .slice ea en ec]] Z fun e w' => e = .returned (.bool x) ∧ Below Z.heap.size Z w') := Lib.hid fun Z hz => by
            rw [hx]; exact same_any (HOR.out.below hz.old) (HQR.out.below hz.old) HOI.out.ok2 HQI.out.ok2
          have HS2 : Hid (∀ Z, TwoQ w ob pb #[.int .u8 ka, .int .i64 aa1, .int .u8 ba1, .bool ga, .slice pa pn pc, .slice da dn dc] #[.int .u8 kb, .int .i64 ab1, .int .u8 bb1, .bool gb, .slice qa qn qc, .slice ea en ec] Z → Calls Tryd.prog 20 #[.agg #[.int .u8 kb, .int .i64 ab1, .int .u8 bb1, .bool gb, .slice qa qn qc, .slice ea en ec], .agg #[.int .u8 ka, .int .i64 aa1, .int .u8 ba1, .bool ga, .slice pa pn pc, .slice da dn dc]] Z fun e w' => e = .returned (.bool x) ∧ Below Z.heap.size Z w') := Lib.hid fun Z hz => by
            rw [hx, same_symm]; exact same_any (HQR.out.below hz.old) (HOR.out.below hz.old) HQI.out.ok2 HOI.out.ok2
          have HX1 : Hid (∀ Z, TwoQ w ob pb #[.int .u8 ka, .int .i64 aa1, .int .u8 ba1, .bool ga, .slice pa pn pc, .slice da dn dc] #[.int .u8 kb, .int .i64 ab1, .int .u8 bb1, .bool gb, .slice qa qn qc, .slice ea en ec] Z → Calls Tryd.prog 21 #[.agg #[.int .u8 ka, .int .i64 aa1, .int .u8 ba1, .bool ga, .slice pa pn pc, .slice da dn dc]] Z fun e w' => e = .returned (.string T1) ∧ Below Z.heap.size Z w') := Lib.hid fun Z hz => by
            rw [hT1]; exact text_in (HOR.out.below hz.old) HOI.out fun w' hw => pow_below HTAB.out hz.old.size (hz.old.trans (hw.mono hz.old.size))
          have HX2 : Hid (∀ Z, TwoQ w ob pb #[.int .u8 ka, .int .i64 aa1, .int .u8 ba1, .bool ga, .slice pa pn pc, .slice da dn dc] #[.int .u8 kb, .int .i64 ab1, .int .u8 bb1, .bool gb, .slice qa qn qc, .slice ea en ec] Z → Calls Tryd.prog 21 #[.agg #[.int .u8 kb, .int .i64 ab1, .int .u8 bb1, .bool gb, .slice qa qn qc, .slice ea en ec]] Z fun e w' => e = .returned (.string T2) ∧ Below Z.heap.size Z w') := Lib.hid fun Z hz => by
            rw [hT2]; exact text_in (HQR.out.below hz.old) HQI.out fun w' hw => pow_below HTAB.out hz.old.size (hz.old.trans (hw.mono hz.old.size))
          have HTT : Hid (x = true → T1 = T2) := Lib.hid fun h => by
            rw [hx] at h
            rw [hT1, hT2, (sameO_eq o q).1 h]
          clear hx hT1 hT2
          cases x
          · go_upto_region 11 with fail
            rw [HV2.out, HPBX.out]
            clear d0 d1 d2 d3 d4 d5
            refine wp_region_held_drew (S := (fun Z => Z.cell? ⟨ob, 0, none⟩ = some (.int .u8 ka) ∧ Z.cell? ⟨ob, 1, none⟩ = some (.int .i64 aa1) ∧ Z.cell? ⟨ob, 2, none⟩ = some (.int .u8 ba1) ∧ Z.cell? ⟨ob, 3, none⟩ = some (.bool ga) ∧ Z.cell? ⟨ob, 4, none⟩ = some (.slice pa pn pc) ∧ Z.cell? ⟨ob, 5, none⟩ = some (.slice da dn dc) ∧ Z.cell? ⟨pb, 0, none⟩ = some (.int .u8 kb) ∧ Z.cell? ⟨pb, 1, none⟩ = some (.int .i64 ab1) ∧ Z.cell? ⟨pb, 2, none⟩ = some (.int .u8 bb1) ∧ Z.cell? ⟨pb, 3, none⟩ = some (.bool gb) ∧ Z.cell? ⟨pb, 4, none⟩ = some (.slice qa qn qc) ∧ Z.cell? ⟨pb, 5, none⟩ = some (.slice ea en ec) ∧ TwoQ w ob pb #[.int .u8 ka, .int .i64 aa1, .int .u8 ba1, .bool ga, .slice pa pn pc, .slice da dn dc] #[.int .u8 kb, .int .i64 ab1, .int .u8 bb1, .bool gb, .slice qa qn qc, .slice ea en ec] Z)) (by kernel_rfl) (TwoQ.s HTQ.out.drew) (fun hHeld => ?_)
            refine wpAnyH_take (i := 0) (oi := { dst := some 39, op := Op.load 35 (Operand.tmp 8), type := 35, pos := "law.go:154", after := #[], guard := none }) (v := ?_) rfl (by kernel_rfl) (by kernel_rfl) (by kernel_rfl) (fun _ _ _ h => h) (Or.inl ⟨by rfl, ?_⟩) (by assumption) ?_
            rotate_left
            focus (intro w hSw; (try dsimp only at hSw); go_simp; try (with_reducible rfl))
            try simp only [Act.put, List.setIfInBounds_toArray, List.set_cons_zero, List.set_cons_succ]
            refine wpAnyH_take (i := 1) (oi := { dst := some 40, op := Op.load 35 (Operand.tmp 10), type := 35, pos := "law.go:154", after := #[], guard := none }) (v := ?_) rfl (by kernel_rfl) (by kernel_rfl) (by kernel_rfl) (fun _ _ _ h => h) (Or.inl ⟨by rfl, ?_⟩) (by assumption) ?_
            rotate_left
            focus (intro w hSw; (try dsimp only at hSw); go_simp; try (with_reducible rfl))
            try simp only [Act.put, List.setIfInBounds_toArray, List.set_cons_zero, List.set_cons_succ]
            refine wpAnyH_take (i := 3) (oi := { dst := some 42, op := Op.load 35 (Operand.tmp 10), type := 35, pos := "law.go:154", after := #[], guard := none }) (v := ?_) rfl (by kernel_rfl) (by kernel_rfl) (by kernel_rfl) (fun _ _ _ h => h) (Or.inl ⟨by rfl, ?_⟩) (by assumption) ?_
            rotate_left
            focus (intro w hSw; (try dsimp only at hSw); go_simp; try (with_reducible rfl))
            try simp only [Act.put, List.setIfInBounds_toArray, List.set_cons_zero, List.set_cons_succ]
            refine wpAnyH_take (i := 4) (oi := { dst := some 43, op := Op.load 35 (Operand.tmp 8), type := 35, pos := "law.go:154", after := #[], guard := none }) (v := ?_) rfl (by kernel_rfl) (by kernel_rfl) (by kernel_rfl) (fun _ _ _ h => h) (Or.inl ⟨by rfl, ?_⟩) (by assumption) ?_
            rotate_left
            focus (intro w hSw; (try dsimp only at hSw); go_simp; try (with_reducible rfl))
            try simp only [Act.put, List.setIfInBounds_toArray, List.set_cons_zero, List.set_cons_succ]
            refine wpAnyH_ready (rs := [2]) (by kernel_rfl) (by simp) (AllReadyH.cons (o := { dst := some 41, op := Op.call { callee := Callee.value (Operand.func 20), args := #[Operand.tmp 39, Operand.tmp 40], argTypes := #[35, 35] }, type := 4, pos := "law.go:154", after := #[{ on := 0, ground := Ground.data }, { on := 1, ground := Ground.data }], guard := none }) rfl (fun K hK => ?_) AllReadyH.nil)
            go_simp
            (go_at_call 20; refine (HS1.out _ (TwoQ.of_s (by assumption))).mono ?_; rintro e wz ⟨rfl, bz⟩)
            go_wp2_with fail
            refine hK.out _ _ (TwoQ.s (TwoQ.below (TwoQ.of_s (by assumption)) (by assumption))) (fun hHeld => ?_)
            clear hK K
            try simp only [Act.put, List.setIfInBounds_toArray, List.set_cons_zero, List.set_cons_succ]
            refine wpAnyH_ready (rs := [5]) (by kernel_rfl) (by simp) (AllReadyH.cons (o := { dst := some 44, op := Op.call { callee := Callee.value (Operand.func 20), args := #[Operand.tmp 42, Operand.tmp 43], argTypes := #[35, 35] }, type := 4, pos := "law.go:154", after := #[{ on := 3, ground := Ground.data }, { on := 4, ground := Ground.data }, { on := 2, ground := Ground.chain }], guard := none }) rfl (fun K hK => ?_) AllReadyH.nil)
            go_simp
            (go_at_call 20; refine (HS2.out _ (TwoQ.of_s (by assumption))).mono ?_; rintro e wz ⟨rfl, bz⟩)
            go_wp2_with fail
            refine hK.out _ _ (TwoQ.s (TwoQ.below (TwoQ.of_s (by assumption)) (by assumption))) (fun hHeld => ?_)
            clear hK K
            try simp only [Act.put, List.setIfInBounds_toArray, List.set_cons_zero, List.set_cons_succ]
            refine wpAnyH_take (i := 6) (oi := { dst := some 45, op := Op.binOp BinOp.neq 4 (Operand.tmp 41) (Operand.tmp 44) 4, type := 4, pos := "law.go:154", after := #[{ on := 2, ground := Ground.data }, { on := 5, ground := Ground.data }], guard := none }) (v := ?_) rfl (by kernel_rfl) (by kernel_rfl) (by kernel_rfl) (fun _ _ _ h => h) (Or.inl ⟨by rfl, ?_⟩) (by assumption) ?_
            rotate_left
            focus (intro w hSw; (try dsimp only at hSw); go_simp; try (with_reducible rfl))
            try simp only [Act.put, List.setIfInBounds_toArray, List.set_cons_zero, List.set_cons_succ]
            refine wpAnyH_take (i := 7) (oi := { dst := some 46, op := Op.move (Operand.tmp 45), type := 4, pos := "law.go:154", after := #[{ on := 6, ground := Ground.data }, { on := 5, ground := Ground.chain }], guard := none }) (v := ?_) rfl (by kernel_rfl) (by kernel_rfl) (by kernel_rfl) (fun _ _ _ h => h) (Or.inl ⟨by rfl, ?_⟩) (by assumption) ?_
            rotate_left
            focus (intro w hSw; (try dsimp only at hSw); go_simp; try (with_reducible rfl))
            try simp only [Act.put, List.setIfInBounds_toArray, List.set_cons_zero, List.set_cons_succ]
            refine wpAnyH_take (i := 8) (oi := { dst := some 47, op := Op.load 35 (Operand.tmp 8), type := 35, pos := "law.go:154", after := #[{ on := 7, ground := Ground.guard }], guard := some (7, false) }) (v := ?_) rfl (by kernel_rfl) (by kernel_rfl) (by kernel_rfl) (fun _ _ _ h => h) (Or.inl ⟨by rfl, ?_⟩) (by assumption) ?_
            rotate_left
            focus (intro w hSw; (try dsimp only at hSw); go_simp; try (with_reducible rfl))
            try simp only [Act.put, List.setIfInBounds_toArray, List.set_cons_zero, List.set_cons_succ]
            refine wpAnyH_take (i := 9) (oi := { dst := some 48, op := Op.load 35 (Operand.tmp 10), type := 35, pos := "law.go:154", after := #[{ on := 7, ground := Ground.guard }], guard := some (7, false) }) (v := ?_) rfl (by kernel_rfl) (by kernel_rfl) (by kernel_rfl) (fun _ _ _ h => h) (Or.inl ⟨by rfl, ?_⟩) (by assumption) ?_
            rotate_left
            focus (intro w hSw; (try dsimp only at hSw); go_simp; try (with_reducible rfl))
            try simp only [Act.put, List.setIfInBounds_toArray, List.set_cons_zero, List.set_cons_succ]
            refine wpAnyH_ready (rs := [10]) (by kernel_rfl) (by simp) (AllReadyH.cons (o := { dst := some 49, op := Op.call { callee := Callee.value (Operand.func 20), args := #[Operand.tmp 47, Operand.tmp 48], argTypes := #[35, 35] }, type := 4, pos := "law.go:154", after := #[{ on := 8, ground := Ground.data }, { on := 9, ground := Ground.data }, { on := 7, ground := Ground.chain }, { on := 7, ground := Ground.guard }], guard := some (7, false) }) rfl (fun K hK => ?_) AllReadyH.nil)
            go_simp
            (go_at_call 20; refine (HS1.out _ (TwoQ.of_s (by assumption))).mono ?_; rintro e wz ⟨rfl, bz⟩)
            go_wp2_with fail
            refine hK.out _ _ (TwoQ.s (TwoQ.below (TwoQ.of_s (by assumption)) (by assumption))) (fun hHeld => ?_)
            clear hK K
            try simp only [Act.put, List.setIfInBounds_toArray, List.set_cons_zero, List.set_cons_succ]
            refine wpAnyH_take (i := 11) (oi := { dst := some 50, op := Op.move (Operand.tmp 49), type := 4, pos := "law.go:154", after := #[{ on := 10, ground := Ground.data }, { on := 10, ground := Ground.chain }, { on := 7, ground := Ground.guard }], guard := some (7, false) }) (v := ?_) rfl (by kernel_rfl) (by kernel_rfl) (by kernel_rfl) (fun _ _ _ h => h) (Or.inl ⟨by rfl, ?_⟩) (by assumption) ?_
            rotate_left
            focus (intro w hSw; (try dsimp only at hSw); go_simp; try (with_reducible rfl))
            try simp only [Act.put, List.setIfInBounds_toArray, List.set_cons_zero, List.set_cons_succ]
            refine wpAnyH_take (i := 12) (oi := { dst := some 51, op := Op.load 35 (Operand.tmp 8), type := 35, pos := "law.go:154", after := #[{ on := 11, ground := Ground.guard }], guard := some (11, true) }) (v := undef) rfl (by kernel_rfl) (by kernel_rfl) (by kernel_rfl) (fun _ _ _ h => h) (Or.inr ⟨by rfl, rfl⟩) (by assumption) ?_
            try simp only [Act.put, List.setIfInBounds_toArray, List.set_cons_zero, List.set_cons_succ]
            refine wpAnyH_take (i := 14) (oi := { dst := some 53, op := Op.load 35 (Operand.tmp 10), type := 35, pos := "law.go:154", after := #[{ on := 11, ground := Ground.guard }], guard := some (11, true) }) (v := undef) rfl (by kernel_rfl) (by kernel_rfl) (by kernel_rfl) (fun _ _ _ h => h) (Or.inr ⟨by rfl, rfl⟩) (by assumption) ?_
            try simp only [Act.put, List.setIfInBounds_toArray, List.set_cons_zero, List.set_cons_succ]
            refine wpAnyH_take (i := 13) (oi := { dst := some 52, op := Op.call { callee := Callee.value (Operand.func 21), args := #[Operand.tmp 51], argTypes := #[35] }, type := 9, pos := "law.go:154", after := #[{ on := 12, ground := Ground.data }, { on := 11, ground := Ground.chain }, { on := 11, ground := Ground.guard }], guard := some (11, true) }) (v := undef) rfl (by kernel_rfl) (by kernel_rfl) (by kernel_rfl) (fun _ _ _ h => h) (Or.inr ⟨by rfl, rfl⟩) (by assumption) ?_
            try simp only [Act.put, List.setIfInBounds_toArray, List.set_cons_zero, List.set_cons_succ]
            refine wpAnyH_take (i := 15) (oi := { dst := some 54, op := Op.call { callee := Callee.value (Operand.func 21), args := #[Operand.tmp 53], argTypes := #[35] }, type := 9, pos := "law.go:154", after := #[{ on := 14, ground := Ground.data }, { on := 13, ground := Ground.chain }, { on := 11, ground := Ground.guard }], guard := some (11, true) }) (v := undef) rfl (by kernel_rfl) (by kernel_rfl) (by kernel_rfl) (fun _ _ _ h => h) (Or.inr ⟨by rfl, rfl⟩) (by assumption) ?_
            try simp only [Act.put, List.setIfInBounds_toArray, List.set_cons_zero, List.set_cons_succ]
            refine wpAnyH_take (i := 16) (oi := { dst := some 55, op := Op.binOp BinOp.neq 9 (Operand.tmp 52) (Operand.tmp 54) 9, type := 4, pos := "law.go:154", after := #[{ on := 13, ground := Ground.data }, { on := 15, ground := Ground.data }, { on := 11, ground := Ground.guard }], guard := some (11, true) }) (v := undef) rfl (by kernel_rfl) (by kernel_rfl) (by kernel_rfl) (fun _ _ _ h => h) (Or.inr ⟨by rfl, rfl⟩) (by assumption) ?_
            try simp only [Act.put, List.setIfInBounds_toArray, List.set_cons_zero, List.set_cons_succ]
            refine wpAnyH_take (i := 17) (oi := { dst := some 56, op := Op.pick (Operand.tmp 50) (Operand.tmp 55) (Operand.const (Value.bool false)), type := 4, pos := "law.go:154", after := #[{ on := 11, ground := Ground.data }, { on := 16, ground := Ground.data }, { on := 7, ground := Ground.guard }], guard := some (7, false) }) (v := ?_) rfl (by kernel_rfl) (by kernel_rfl) (by kernel_rfl) (fun _ _ _ h => h) (Or.inl ⟨by rfl, ?_⟩) (by assumption) ?_
            rotate_left
            focus (intro w hSw; (try dsimp only at hSw); go_simp; try (with_reducible rfl))
            try simp only [Act.put, List.setIfInBounds_toArray, List.set_cons_zero, List.set_cons_succ]
            refine wpAnyH_take (i := 18) (oi := { dst := some 57, op := Op.pick (Operand.tmp 46) (Operand.const (Value.bool true)) (Operand.tmp 56), type := 4, pos := "law.go:154", after := #[{ on := 7, ground := Ground.data }, { on := 17, ground := Ground.data }], guard := none }) (v := ?_) rfl (by kernel_rfl) (by kernel_rfl) (by kernel_rfl) (fun _ _ _ h => h) (Or.inl ⟨by rfl, ?_⟩) (by assumption) ?_
            rotate_left
            focus (intro w hSw; (try dsimp only at hSw); go_simp; try (with_reducible rfl))
            try simp only [Act.put, List.setIfInBounds_toArray, List.set_cons_zero, List.set_cons_succ]
            refine wpAnyH_done (by kernel_rfl) ?_ _
            have HONE2 : Hid (OneQ w ob #[.int .u8 ka, .int .i64 aa1, .int .u8 ba1, .bool ga, .slice pa pn pc, .slice da dn dc] _) := Lib.hid ⟨(TwoQ.of_s (by assumption)).a, (TwoQ.of_s (by assumption)).old⟩
            go_wp2_with fail
            go_roundw
            case rel => exact ⟨m + 1, by omega, by go_num, HONE2⟩
            case measure => simp [intOf]; omega
          · obtain rfl : T1 = T2 := HTT.out rfl
            have htt : (T1.toList == T1.toList) = true := by simp
            go_upto_region 11 with fail
            rw [HV2.out, HPBX.out]
            clear d0 d1 d2 d3 d4 d5
            refine wp_region_held_drew (S := (fun Z => Z.cell? ⟨ob, 0, none⟩ = some (.int .u8 ka) ∧ Z.cell? ⟨ob, 1, none⟩ = some (.int .i64 aa1) ∧ Z.cell? ⟨ob, 2, none⟩ = some (.int .u8 ba1) ∧ Z.cell? ⟨ob, 3, none⟩ = some (.bool ga) ∧ Z.cell? ⟨ob, 4, none⟩ = some (.slice pa pn pc) ∧ Z.cell? ⟨ob, 5, none⟩ = some (.slice da dn dc) ∧ Z.cell? ⟨pb, 0, none⟩ = some (.int .u8 kb) ∧ Z.cell? ⟨pb, 1, none⟩ = some (.int .i64 ab1) ∧ Z.cell? ⟨pb, 2, none⟩ = some (.int .u8 bb1) ∧ Z.cell? ⟨pb, 3, none⟩ = some (.bool gb) ∧ Z.cell? ⟨pb, 4, none⟩ = some (.slice qa qn qc) ∧ Z.cell? ⟨pb, 5, none⟩ = some (.slice ea en ec) ∧ TwoQ w ob pb #[.int .u8 ka, .int .i64 aa1, .int .u8 ba1, .bool ga, .slice pa pn pc, .slice da dn dc] #[.int .u8 kb, .int .i64 ab1, .int .u8 bb1, .bool gb, .slice qa qn qc, .slice ea en ec] Z)) (by kernel_rfl) (TwoQ.s HTQ.out.drew) (fun hHeld => ?_)
            refine wpAnyH_take (i := 0) (oi := { dst := some 39, op := Op.load 35 (Operand.tmp 8), type := 35, pos := "law.go:154", after := #[], guard := none }) (v := ?_) rfl (by kernel_rfl) (by kernel_rfl) (by kernel_rfl) (fun _ _ _ h => h) (Or.inl ⟨by rfl, ?_⟩) (by assumption) ?_
            rotate_left
            focus (intro w hSw; (try dsimp only at hSw); go_simp; try (with_reducible rfl))
            try simp only [Act.put, List.setIfInBounds_toArray, List.set_cons_zero, List.set_cons_succ]
            refine wpAnyH_take (i := 1) (oi := { dst := some 40, op := Op.load 35 (Operand.tmp 10), type := 35, pos := "law.go:154", after := #[], guard := none }) (v := ?_) rfl (by kernel_rfl) (by kernel_rfl) (by kernel_rfl) (fun _ _ _ h => h) (Or.inl ⟨by rfl, ?_⟩) (by assumption) ?_
            rotate_left
            focus (intro w hSw; (try dsimp only at hSw); go_simp; try (with_reducible rfl))
            try simp only [Act.put, List.setIfInBounds_toArray, List.set_cons_zero, List.set_cons_succ]
            refine wpAnyH_take (i := 3) (oi := { dst := some 42, op := Op.load 35 (Operand.tmp 10), type := 35, pos := "law.go:154", after := #[], guard := none }) (v := ?_) rfl (by kernel_rfl) (by kernel_rfl) (by kernel_rfl) (fun _ _ _ h => h) (Or.inl ⟨by rfl, ?_⟩) (by assumption) ?_
            rotate_left
            focus (intro w hSw; (try dsimp only at hSw); go_simp; try (with_reducible rfl))
            try simp only [Act.put, List.setIfInBounds_toArray, List.set_cons_zero, List.set_cons_succ]
            refine wpAnyH_take (i := 4) (oi := { dst := some 43, op := Op.load 35 (Operand.tmp 8), type := 35, pos := "law.go:154", after := #[], guard := none }) (v := ?_) rfl (by kernel_rfl) (by kernel_rfl) (by kernel_rfl) (fun _ _ _ h => h) (Or.inl ⟨by rfl, ?_⟩) (by assumption) ?_
            rotate_left
            focus (intro w hSw; (try dsimp only at hSw); go_simp; try (with_reducible rfl))
            try simp only [Act.put, List.setIfInBounds_toArray, List.set_cons_zero, List.set_cons_succ]
            refine wpAnyH_ready (rs := [2]) (by kernel_rfl) (by simp) (AllReadyH.cons (o := { dst := some 41, op := Op.call { callee := Callee.value (Operand.func 20), args := #[Operand.tmp 39, Operand.tmp 40], argTypes := #[35, 35] }, type := 4, pos := "law.go:154", after := #[{ on := 0, ground := Ground.data }, { on := 1, ground := Ground.data }], guard := none }) rfl (fun K hK => ?_) AllReadyH.nil)
            go_simp
            (go_at_call 20; refine (HS1.out _ (TwoQ.of_s (by assumption))).mono ?_; rintro e wz ⟨rfl, bz⟩)
            go_wp2_with fail
            refine hK.out _ _ (TwoQ.s (TwoQ.below (TwoQ.of_s (by assumption)) (by assumption))) (fun hHeld => ?_)
            clear hK K
            try simp only [Act.put, List.setIfInBounds_toArray, List.set_cons_zero, List.set_cons_succ]
            refine wpAnyH_ready (rs := [5]) (by kernel_rfl) (by simp) (AllReadyH.cons (o := { dst := some 44, op := Op.call { callee := Callee.value (Operand.func 20), args := #[Operand.tmp 42, Operand.tmp 43], argTypes := #[35, 35] }, type := 4, pos := "law.go:154", after := #[{ on := 3, ground := Ground.data }, { on := 4, ground := Ground.data }, { on := 2, ground := Ground.chain }], guard := none }) rfl (fun K hK => ?_) AllReadyH.nil)
            go_simp
            (go_at_call 20; refine (HS2.out _ (TwoQ.of_s (by assumption))).mono ?_; rintro e wz ⟨rfl, bz⟩)
            go_wp2_with fail
            refine hK.out _ _ (TwoQ.s (TwoQ.below (TwoQ.of_s (by assumption)) (by assumption))) (fun hHeld => ?_)
            clear hK K
            try simp only [Act.put, List.setIfInBounds_toArray, List.set_cons_zero, List.set_cons_succ]
            refine wpAnyH_take (i := 6) (oi := { dst := some 45, op := Op.binOp BinOp.neq 4 (Operand.tmp 41) (Operand.tmp 44) 4, type := 4, pos := "law.go:154", after := #[{ on := 2, ground := Ground.data }, { on := 5, ground := Ground.data }], guard := none }) (v := ?_) rfl (by kernel_rfl) (by kernel_rfl) (by kernel_rfl) (fun _ _ _ h => h) (Or.inl ⟨by rfl, ?_⟩) (by assumption) ?_
            rotate_left
            focus (intro w hSw; (try dsimp only at hSw); go_simp; try (with_reducible rfl))
            try simp only [Act.put, List.setIfInBounds_toArray, List.set_cons_zero, List.set_cons_succ]
            refine wpAnyH_take (i := 7) (oi := { dst := some 46, op := Op.move (Operand.tmp 45), type := 4, pos := "law.go:154", after := #[{ on := 6, ground := Ground.data }, { on := 5, ground := Ground.chain }], guard := none }) (v := ?_) rfl (by kernel_rfl) (by kernel_rfl) (by kernel_rfl) (fun _ _ _ h => h) (Or.inl ⟨by rfl, ?_⟩) (by assumption) ?_
            rotate_left
            focus (intro w hSw; (try dsimp only at hSw); go_simp; try (with_reducible rfl))
            try simp only [Act.put, List.setIfInBounds_toArray, List.set_cons_zero, List.set_cons_succ]
            refine wpAnyH_take (i := 8) (oi := { dst := some 47, op := Op.load 35 (Operand.tmp 8), type := 35, pos := "law.go:154", after := #[{ on := 7, ground := Ground.guard }], guard := some (7, false) }) (v := ?_) rfl (by kernel_rfl) (by kernel_rfl) (by kernel_rfl) (fun _ _ _ h => h) (Or.inl ⟨by rfl, ?_⟩) (by assumption) ?_
            rotate_left
            focus (intro w hSw; (try dsimp only at hSw); go_simp; try (with_reducible rfl))
            try simp only [Act.put, List.setIfInBounds_toArray, List.set_cons_zero, List.set_cons_succ]
            refine wpAnyH_take (i := 9) (oi := { dst := some 48, op := Op.load 35 (Operand.tmp 10), type := 35, pos := "law.go:154", after := #[{ on := 7, ground := Ground.guard }], guard := some (7, false) }) (v := ?_) rfl (by kernel_rfl) (by kernel_rfl) (by kernel_rfl) (fun _ _ _ h => h) (Or.inl ⟨by rfl, ?_⟩) (by assumption) ?_
            rotate_left
            focus (intro w hSw; (try dsimp only at hSw); go_simp; try (with_reducible rfl))
            try simp only [Act.put, List.setIfInBounds_toArray, List.set_cons_zero, List.set_cons_succ]
            refine wpAnyH_ready (rs := [10]) (by kernel_rfl) (by simp) (AllReadyH.cons (o := { dst := some 49, op := Op.call { callee := Callee.value (Operand.func 20), args := #[Operand.tmp 47, Operand.tmp 48], argTypes := #[35, 35] }, type := 4, pos := "law.go:154", after := #[{ on := 8, ground := Ground.data }, { on := 9, ground := Ground.data }, { on := 7, ground := Ground.chain }, { on := 7, ground := Ground.guard }], guard := some (7, false) }) rfl (fun K hK => ?_) AllReadyH.nil)
            go_simp
            (go_at_call 20; refine (HS1.out _ (TwoQ.of_s (by assumption))).mono ?_; rintro e wz ⟨rfl, bz⟩)
            go_wp2_with fail
            refine hK.out _ _ (TwoQ.s (TwoQ.below (TwoQ.of_s (by assumption)) (by assumption))) (fun hHeld => ?_)
            clear hK K
            try simp only [Act.put, List.setIfInBounds_toArray, List.set_cons_zero, List.set_cons_succ]
            refine wpAnyH_take (i := 11) (oi := { dst := some 50, op := Op.move (Operand.tmp 49), type := 4, pos := "law.go:154", after := #[{ on := 10, ground := Ground.data }, { on := 10, ground := Ground.chain }, { on := 7, ground := Ground.guard }], guard := some (7, false) }) (v := ?_) rfl (by kernel_rfl) (by kernel_rfl) (by kernel_rfl) (fun _ _ _ h => h) (Or.inl ⟨by rfl, ?_⟩) (by assumption) ?_
            rotate_left
            focus (intro w hSw; (try dsimp only at hSw); go_simp; try (with_reducible rfl))
            try simp only [Act.put, List.setIfInBounds_toArray, List.set_cons_zero, List.set_cons_succ]
            refine wpAnyH_take (i := 12) (oi := { dst := some 51, op := Op.load 35 (Operand.tmp 8), type := 35, pos := "law.go:154", after := #[{ on := 11, ground := Ground.guard }], guard := some (11, true) }) (v := ?_) rfl (by kernel_rfl) (by kernel_rfl) (by kernel_rfl) (fun _ _ _ h => h) (Or.inl ⟨by rfl, ?_⟩) (by assumption) ?_
            rotate_left
            focus (intro w hSw; (try dsimp only at hSw); go_simp; try (with_reducible rfl))
            try simp only [Act.put, List.setIfInBounds_toArray, List.set_cons_zero, List.set_cons_succ]
            refine wpAnyH_take (i := 14) (oi := { dst := some 53, op := Op.load 35 (Operand.tmp 10), type := 35, pos := "law.go:154", after := #[{ on := 11, ground := Ground.guard }], guard := some (11, true) }) (v := ?_) rfl (by kernel_rfl) (by kernel_rfl) (by kernel_rfl) (fun _ _ _ h => h) (Or.inl ⟨by rfl, ?_⟩) (by assumption) ?_
            rotate_left
            focus (intro w hSw; (try dsimp only at hSw); go_simp; try (with_reducible rfl))
            try simp only [Act.put, List.setIfInBounds_toArray, List.set_cons_zero, List.set_cons_succ]
            refine wpAnyH_ready (rs := [13]) (by kernel_rfl) (by simp) (AllReadyH.cons (o := { dst := some 52, op := Op.call { callee := Callee.value (Operand.func 21), args := #[Operand.tmp 51], argTypes := #[35] }, type := 9, pos := "law.go:154", after := #[{ on := 12, ground := Ground.data }, { on := 11, ground := Ground.chain }, { on := 11, ground := Ground.guard }], guard := some (11, true) }) rfl (fun K hK => ?_) AllReadyH.nil)
            go_simp
            (go_at_call 21; refine (HX1.out _ (TwoQ.of_s (by assumption))).mono ?_; rintro e wz ⟨rfl, bz⟩)
            go_wp2_with fail
            refine hK.out _ _ (TwoQ.s (TwoQ.below (TwoQ.of_s (by assumption)) (by assumption))) (fun hHeld => ?_)
            clear hK K
            try simp only [Act.put, List.setIfInBounds_toArray, List.set_cons_zero, List.set_cons_succ]
            refine wpAnyH_ready (rs := [15]) (by kernel_rfl) (by simp) (AllReadyH.cons (o := { dst := some 54, op := Op.call { callee := Callee.value (Operand.func 21), args := #[Operand.tmp 53], argTypes := #[35] }, type := 9, pos := "law.go:154", after := #[{ on := 14, ground := Ground.data }, { on := 13, ground := Ground.chain }, { on := 11, ground := Ground.guard }], guard := some (11, true) }) rfl (fun K hK => ?_) AllReadyH.nil)
            go_simp
            (go_at_call 21; refine (HX2.out _ (TwoQ.of_s (by assumption))).mono ?_; rintro e wz ⟨rfl, bz⟩)
            go_wp2_with fail
            refine hK.out _ _ (TwoQ.s (TwoQ.below (TwoQ.of_s (by assumption)) (by assumption))) (fun hHeld => ?_)
            clear hK K
            try simp only [Act.put, List.setIfInBounds_toArray, List.set_cons_zero, List.set_cons_succ]
            refine wpAnyH_take (i := 16) (oi := { dst := some 55, op := Op.binOp BinOp.neq 9 (Operand.tmp 52) (Operand.tmp 54) 9, type := 4, pos := "law.go:154", after := #[{ on := 13, ground := Ground.data }, { on := 15, ground := Ground.data }, { on := 11, ground := Ground.guard }], guard := some (11, true) }) (v := ?_) rfl (by kernel_rfl) (by kernel_rfl) (by kernel_rfl) (fun _ _ _ h => h) (Or.inl ⟨by rfl, ?_⟩) (by assumption) ?_
            rotate_left
            focus (intro w hSw; (try dsimp only at hSw); go_simp; try (with_reducible rfl))
            try simp only [Act.put, List.setIfInBounds_toArray, List.set_cons_zero, List.set_cons_succ]
            refine wpAnyH_take (i := 17) (oi := { dst := some 56, op := Op.pick (Operand.tmp 50) (Operand.tmp 55) (Operand.const (Value.bool false)), type := 4, pos := "law.go:154", after := #[{ on := 11, ground := Ground.data }, { on := 16, ground := Ground.data }, { on := 7, ground := Ground.guard }], guard := some (7, false) }) (v := ?_) rfl (by kernel_rfl) (by kernel_rfl) (by kernel_rfl) (fun _ _ _ h => h) (Or.inl ⟨by rfl, ?_⟩) (by assumption) ?_
            rotate_left
            focus (intro w hSw; (try dsimp only at hSw); go_simp; try (with_reducible rfl))
            try simp only [Act.put, List.setIfInBounds_toArray, List.set_cons_zero, List.set_cons_succ]
            refine wpAnyH_take (i := 18) (oi := { dst := some 57, op := Op.pick (Operand.tmp 46) (Operand.const (Value.bool true)) (Operand.tmp 56), type := 4, pos := "law.go:154", after := #[{ on := 7, ground := Ground.data }, { on := 17, ground := Ground.data }], guard := none }) (v := ?_) rfl (by kernel_rfl) (by kernel_rfl) (by kernel_rfl) (fun _ _ _ h => h) (Or.inl ⟨by rfl, ?_⟩) (by assumption) ?_
            rotate_left
            focus (intro w hSw; (try dsimp only at hSw); go_simp; try (with_reducible rfl))
            try simp only [Act.put, List.setIfInBounds_toArray, List.set_cons_zero, List.set_cons_succ]
            refine wpAnyH_done (by kernel_rfl) ?_ _
            have HONE2 : Hid (OneQ w ob #[.int .u8 ka, .int .i64 aa1, .int .u8 ba1, .bool ga, .slice pa pn pc, .slice da dn dc] _) := Lib.hid ⟨(TwoQ.of_s (by assumption)).a, (TwoQ.of_s (by assumption)).old⟩
            go_wp2_with fail
            go_roundw
            case rel => exact ⟨m + 1, by omega, by go_num, HONE2⟩
            case measure => simp [intOf]; omega
        · obtain rfl : bn = m := by omega
          have HBX := Lib.hid hone.out.2
          clear hone
          go_wp2_with fail
          go_roundw
          case rel => exact ⟨j + 1, by omega, by go_num, HBX⟩
          case measure => simp [intOf]; omega
    · obtain rfl : an = j := by omega
      obtain ⟨E, hE⟩ : ∃ E, E = wErr A n := ⟨_, rfl⟩
      obtain ⟨F, hF⟩ : ∃ F, F = wErr B n := ⟨_, rfl⟩
      obtain ⟨G, hG⟩ : ∃ G, G = wErr (A ++ B) n := ⟨_, rfl⟩
      have hg : G = if E = 0 then F else E := by rw [hG, wErr_append, ← hE, ← hF]
      have HE := Lib.hid hE.symm
      have HF := Lib.hid hF.symm
      have HG := Lib.hid hG.symm
      clear hE hF hG
      have key : (E = 0 ∧ F = 0 ∧ G = 0) ∨ (E = 0 ∧ (F == 0) = false ∧ G = F) ∨ ((E == 0) = false ∧ G = E) := by
        by_cases h : E = 0
        · rw [if_pos h] at hg
          by_cases h2 : F = 0
          · exact .inl ⟨h, h2, by rw [hg, h2]⟩
          · exact .inr (.inl ⟨h, by simpa using h2, hg⟩)
        · rw [if_neg h] at hg
          exact .inr (.inr ⟨by simpa using h, hg⟩)
      clear hg
      rcases key with ⟨rfl, rfl, rfl⟩ | ⟨rfl, kf, rfl⟩ | ⟨ke, rfl⟩
      · go_wp2_with fail
        refine (owrites_any n (HA.out.below hold.out) HA4.out (by have := H40.out; omega) (by have := HLA.out; omega)).mono ?_
        rintro e W5 ⟨u5, he, hu5, _, b5⟩
        rw [HE.out] at he hu5
        subst he
        have HB5 := Lib.hid (hold.out.trans (b5.mono hold.out.size))
        have hown5 := hu5 rfl
        obtain ⟨a5, c5, rfl⟩ : ∃ a c, u5 = .slice a (wBytes A n).length c := by obtain ⟨_, a, c, e, _⟩ := hown5.cut; exact ⟨a, c, e⟩
        obtain ⟨n5, hn5⟩ : ∃ m, m = (wBytes A n).length := ⟨_, rfl⟩
        rw [← hn5] at hown5 ⊢
        have HN5 := Lib.hid hn5
        have HR5 := Lib.hid hown5.row
        clear hown5 hn5
        clear hu5 b5
        go_wp2_with fail
        refine (owrites_any n (HB.out.below HB5.out) HB4.out (by have := T40.out; omega) (by have := HLB.out; omega)).mono ?_
        rintro e W6 ⟨u6, he, hu6, _, b6⟩
        rw [HF.out] at he hu6
        subst he
        have HB6 := Lib.hid (HB5.out.trans (b6.mono HB5.out.size))
        have hown6 := hu6 rfl
        obtain ⟨a6, c6, rfl⟩ : ∃ a c, u6 = .slice a (wBytes B n).length c := by obtain ⟨_, a, c, e, _⟩ := hown6.cut; exact ⟨a, c, e⟩
        obtain ⟨n6, hn6⟩ : ∃ m, m = (wBytes B n).length := ⟨_, rfl⟩
        rw [← hn6] at hown6 ⊢
        have HN6 := Lib.hid hn6
        have HR6 := Lib.hid hown6.row
        have HR56 := Lib.hid (HR5.out.below b6)
        clear hown6 hn6 HR5
        clear hu6 b6
        have HIA7 := Lib.hid ((HIA.out.below HB6.out).below (below_alloc W6 (.cells #[] 35)))
        have HOWN := Lib.hid (no_orders W6)
        go_wp2_with (at_builtin; first
          | (refine append_in (by rfl) _ _ rfl HOWN.out HIA7.out rfl rfl (by have := HAP.out; omega) (by rw [World.size_alloc]; omega) ?_; intro v8 W8 hown8 hg8; have HOWN8 := Lib.hid hown8; have hb78 := Lib.hid ((below_alloc W6 (.cells #[] 35)).grown hg8 (by rw [World.size_alloc]; omega) (fun r e => row_first HOWN.out r e)); have HIB8 := Lib.hid ((HIB.out.below HB6.out).below hb78.out); clear hown8 hg8)
          | (refine append_in (by rfl) _ _ rfl HOWN8.out HIB8.out rfl rfl (by have := HAP.out; have := HBP.out; omega) hb78.out.size ?_; intro v9 W9 hown9 hg9; have HOWN9 := Lib.hid hown9; have hb79 := Lib.hid (hb78.out.grown hg9 hb78.out.size (fun r e => row_first HOWN8.out r e)); clear hown9 hg9))
        have hlow : LowP W6.heap.size W9 (PA ++ PB) := fun p hp => by
          rcases List.mem_append.1 hp with hp | hp
          · exact ((HIA.out.below HB6.out).lowP.keep (fun g hg _ => hb79.out.block g hg) hb79.out.size) p hp
          · exact ((HIB.out.below HB6.out).lowP.keep (fun g hg _ => hb79.out.block g hg) hb79.out.size) p hp
        have hat : OrdsAt2 W9 v9 (A ++ B) := by
          have := at2_of (P := PA ++ PB) (s := W6.heap.size) (w := W9) (v := v9) (by
            have := HOWN9.out
            rw [Nat.zero_add, List.nil_append, ← ordC_append] at this
            rw [List.length_append]
            exact this) hlow (fun p hp => (List.mem_append.1 hp).elim (fun h => (HIA.out.2 p h).2.2) (fun h => (HIB.out.2 p h).2.2))
          rwa [List.map_append, HPA.out, HPB.out] at this
        have HAT := Lib.hid hat
        have HB9 := Lib.hid (HB6.out.trans (hb79.out.mono HB6.out.size))
        clear hlow hat
        have HR59 := Lib.hid (HR56.out.below hb79.out)
        have HR69 := Lib.hid (HR6.out.below hb79.out)
        clear HR56 HR6
        clear hb78 hb79 HOWN HOWN8 HOWN9 HIA7 HIB8
        refine (owrites_any n HAT.out (fun o ho => (List.mem_append.1 ho).elim (HA4.out o) (HB4.out o)) (by have := H40.out; have := T40.out; rw [List.length_append]; omega) (by have := HLA.out; have := HLB.out; rw [wBytes_append, List.length_append]; omega)).mono ?_
        rintro e W10 ⟨u10, he, hu10, _, b10⟩
        rw [HG.out] at he hu10
        subst he
        have HB10 := Lib.hid (HB9.out.trans (b10.mono HB9.out.size))
        have h10 := (hu10 rfl).row
        rw [wBytes_append] at h10
        have HZ10 := Lib.hid h10
        have HR510 := Lib.hid (HR59.out.below b10)
        have HR610 := Lib.hid (HR69.out.below b10)
        clear hu10 b10 h10 HR59 HR69
        go_wp2_with fail
        have hal := below_alloc W10 (.cells #[.slice a5 n5 c5, .slice a6 n6 c6] 22)
        have hrj := rjoin_any _ [wBytes A n, wBytes B n] _ (two_rows (w := W10) HR510.out HR610.out) (by simp) (by have h1 := HLA.out; have h2 := HLB.out; simp; omega)
        refine hrj.mono ?_
        rintro e W11 ⟨pj, rfl, hpj, b11⟩
        have hb := hal.trans (b11.mono hal.size)
        have hpj2 : RowOf .u8 W11 pj (wBytes A n ++ wBytes B n) := by have := hpj.row; simpa using this
        have hs := Base.same_any u10 pj (wBytes A n ++ wBytes B n) (wBytes A n ++ wBytes B n) W11 (HZ10.out.below hb) hpj2 (by have h1 := HLA.out; have h2 := HLB.out; unfold maxLen; rw [List.length_append]; omega)
        rw [decide_eq_true rfl] at hs
        have HSA := Lib.hid hs
        have HB11 := Lib.hid (HB10.out.trans (hb.mono HB10.out.size))
        clear hal hrj hpj b11 hb hpj2 hs
        go_wp2_with fail
        refine HSA.out.mono ?_
        rintro e W12 ⟨rfl, m, hw12⟩
        have hb12 : Below W11.heap.size W11 W12 := by rw [hw12]; exact ⟨rfl, rfl, rfl, Nat.le_refl _, fun _ _ => rfl⟩
        have HB12 := Lib.hid (HB11.out.trans (hb12.mono HB11.out.size))
        clear hw12 hb12
        go_wp2_with fail
        go_ret
        exact ⟨rfl, HB12.out⟩
      · go_wp2_with fail
        refine (owrites_any n (HA.out.below hold.out) HA4.out (by have := H40.out; omega) (by have := HLA.out; omega)).mono ?_
        rintro e W5 ⟨u5, he, hu5, _, b5⟩
        rw [HE.out] at he hu5
        subst he
        have HB5 := Lib.hid (hold.out.trans (b5.mono hold.out.size))
        clear hu5 b5
        go_wp2_with fail
        refine (owrites_any n (HB.out.below HB5.out) HB4.out (by have := T40.out; omega) (by have := HLB.out; omega)).mono ?_
        rintro e W6 ⟨u6, he, hu6, _, b6⟩
        rw [HF.out] at he hu6
        subst he
        have HB6 := Lib.hid (HB5.out.trans (b6.mono HB5.out.size))
        clear hu6 b6
        have HIA7 := Lib.hid ((HIA.out.below HB6.out).below (below_alloc W6 (.cells #[] 35)))
        have HOWN := Lib.hid (no_orders W6)
        go_wp2_with (at_builtin; first
          | (refine append_in (by rfl) _ _ rfl HOWN.out HIA7.out rfl rfl (by have := HAP.out; omega) (by rw [World.size_alloc]; omega) ?_; intro v8 W8 hown8 hg8; have HOWN8 := Lib.hid hown8; have hb78 := Lib.hid ((below_alloc W6 (.cells #[] 35)).grown hg8 (by rw [World.size_alloc]; omega) (fun r e => row_first HOWN.out r e)); have HIB8 := Lib.hid ((HIB.out.below HB6.out).below hb78.out); clear hown8 hg8)
          | (refine append_in (by rfl) _ _ rfl HOWN8.out HIB8.out rfl rfl (by have := HAP.out; have := HBP.out; omega) hb78.out.size ?_; intro v9 W9 hown9 hg9; have HOWN9 := Lib.hid hown9; have hb79 := Lib.hid (hb78.out.grown hg9 hb78.out.size (fun r e => row_first HOWN8.out r e)); clear hown9 hg9))
        have hlow : LowP W6.heap.size W9 (PA ++ PB) := fun p hp => by
          rcases List.mem_append.1 hp with hp | hp
          · exact ((HIA.out.below HB6.out).lowP.keep (fun g hg _ => hb79.out.block g hg) hb79.out.size) p hp
          · exact ((HIB.out.below HB6.out).lowP.keep (fun g hg _ => hb79.out.block g hg) hb79.out.size) p hp
        have hat : OrdsAt2 W9 v9 (A ++ B) := by
          have := at2_of (P := PA ++ PB) (s := W6.heap.size) (w := W9) (v := v9) (by
            have := HOWN9.out
            rw [Nat.zero_add, List.nil_append, ← ordC_append] at this
            rw [List.length_append]
            exact this) hlow (fun p hp => (List.mem_append.1 hp).elim (fun h => (HIA.out.2 p h).2.2) (fun h => (HIB.out.2 p h).2.2))
          rwa [List.map_append, HPA.out, HPB.out] at this
        have HAT := Lib.hid hat
        have HB9 := Lib.hid (HB6.out.trans (hb79.out.mono HB6.out.size))
        clear hlow hat
        clear hb78 hb79 HOWN HOWN8 HOWN9 HIA7 HIB8
        refine (owrites_any n HAT.out (fun o ho => (List.mem_append.1 ho).elim (HA4.out o) (HB4.out o)) (by have := H40.out; have := T40.out; rw [List.length_append]; omega) (by have := HLA.out; have := HLB.out; rw [wBytes_append, List.length_append]; omega)).mono ?_
        rintro e W10 ⟨u10, he, hu10, _, b10⟩
        rw [HG.out] at he hu10
        subst he
        have HB10 := Lib.hid (HB9.out.trans (b10.mono HB9.out.size))
        clear hu10 b10
        go_wp2_with fail
        go_ret
        exact ⟨rfl, HB10.out⟩
      · go_wp2_with fail
        refine (owrites_any n (HA.out.below hold.out) HA4.out (by have := H40.out; omega) (by have := HLA.out; omega)).mono ?_
        rintro e W5 ⟨u5, he, hu5, _, b5⟩
        rw [HE.out] at he hu5
        subst he
        have HB5 := Lib.hid (hold.out.trans (b5.mono hold.out.size))
        clear hu5 b5
        go_wp2_with fail
        refine (owrites_any n (HB.out.below HB5.out) HB4.out (by have := T40.out; omega) (by have := HLB.out; omega)).mono ?_
        rintro e W6 ⟨u6, he, hu6, _, b6⟩
        rw [HF.out] at he hu6
        subst he
        have HB6 := Lib.hid (HB5.out.trans (b6.mono HB5.out.size))
        clear hu6 b6
        have HIA7 := Lib.hid ((HIA.out.below HB6.out).below (below_alloc W6 (.cells #[] 35)))
        have HOWN := Lib.hid (no_orders W6)
        go_wp2_with (at_builtin; first
          | (refine append_in (by rfl) _ _ rfl HOWN.out HIA7.out rfl rfl (by have := HAP.out; omega) (by rw [World.size_alloc]; omega) ?_; intro v8 W8 hown8 hg8; have HOWN8 := Lib.hid hown8; have hb78 := Lib.hid ((below_alloc W6 (.cells #[] 35)).grown hg8 (by rw [World.size_alloc]; omega) (fun r e => row_first HOWN.out r e)); have HIB8 := Lib.hid ((HIB.out.below HB6.out).below hb78.out); clear hown8 hg8)
          | (refine append_in (by rfl) _ _ rfl HOWN8.out HIB8.out rfl rfl (by have := HAP.out; have := HBP.out; omega) hb78.out.size ?_; intro v9 W9 hown9 hg9; have HOWN9 := Lib.hid hown9; have hb79 := Lib.hid (hb78.out.grown hg9 hb78.out.size (fun r e => row_first HOWN8.out r e)); clear hown9 hg9))
        have hlow : LowP W6.heap.size W9 (PA ++ PB) := fun p hp => by
          rcases List.mem_append.1 hp with hp | hp
          · exact ((HIA.out.below HB6.out).lowP.keep (fun g hg _ => hb79.out.block g hg) hb79.out.size) p hp
          · exact ((HIB.out.below HB6.out).lowP.keep (fun g hg _ => hb79.out.block g hg) hb79.out.size) p hp
        have hat : OrdsAt2 W9 v9 (A ++ B) := by
          have := at2_of (P := PA ++ PB) (s := W6.heap.size) (w := W9) (v := v9) (by
            have := HOWN9.out
            rw [Nat.zero_add, List.nil_append, ← ordC_append] at this
            rw [List.length_append]
            exact this) hlow (fun p hp => (List.mem_append.1 hp).elim (fun h => (HIA.out.2 p h).2.2) (fun h => (HIB.out.2 p h).2.2))
          rwa [List.map_append, HPA.out, HPB.out] at this
        have HAT := Lib.hid hat
        have HB9 := Lib.hid (HB6.out.trans (hb79.out.mono HB6.out.size))
        clear hlow hat
        clear hb78 hb79 HOWN HOWN8 HOWN9 HIA7 HIB8
        refine (owrites_any n HAT.out (fun o ho => (List.mem_append.1 ho).elim (HA4.out o) (HB4.out o)) (by have := H40.out; have := T40.out; rw [List.length_append]; omega) (by have := HLA.out; have := HLB.out; rw [wBytes_append, List.length_append]; omega)).mono ?_
        rintro e W10 ⟨u10, he, hu10, _, b10⟩
        rw [HG.out] at he hu10
        subst he
        have HB10 := Lib.hid (HB9.out.trans (b10.mono HB9.out.size))
        clear hu10 b10
        go_wp2_with fail
        go_ret
        exact ⟨ret_bool (by simp [bne, ke]), HB10.out⟩
end Go.Proofs.YtjeknociobbhpaaDoor.Ord
