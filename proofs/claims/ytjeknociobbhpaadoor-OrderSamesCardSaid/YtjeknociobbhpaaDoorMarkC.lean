/-
  strconv.AppendInt at base 10, on a row of the call's own that may have the run-time's mark.
-/
import Derived.Test.YtjeknociobbhpaaDoorMarkB
import Derived.Test.YtjeknociobbhpaaDoorOrdTA
import Derived.Test.YtjeknociobbhpaaDoorShelf
import Derived.Lib.ItoaMem
import Derived.Lib.AppendIntMem
import Derived.Lib.Slices
import Derived.BigGuard
namespace Go.Proofs.YtjeknociobbhpaaDoor.Ord
open Go.RowKit Base Go.Sort
set_option linter.unusedVariables false
set_option linter.unusedSimpArgs false

section
variable {ops : Array Oper} {rest : List Oper} {o : Oper} {a : Act} {w : World} {Q : Exit → Act → World → Prop}
theorem wpList_append_md (hgd : o.guard = none) (s x : Operand) (ho : o.op = .call { callee := .builtin .append, args := #[s, x], argTypes := #[22, 22] })
    {base : Nat} {v : Value} {L X : List Int} (hown : OwnM base w v L) (ad : Addr) (n c : Nat) (hn : X.length = n) (hr : ∀ (j : Nat) (u : Value), (X.map (Value.int .u8))[j]? = some u → w.cell? (ad.add j) = some u) (hs : a.eval s = v) (hx : a.eval x = .slice (some ad) n c)
    (hm : L.length + X.length ≤ 10000000) (hb : base ≤ w.heap.size)
    (h : ∀ v' w', OwnM base w' v' (L ++ X) → w.grownBy w' v.ownBlock → wpList Tryd.prog ops Q rest (a.put o.dst v') w') : wpList Tryd.prog ops Q (o :: rest) a w := by
  refine wpList_plain hgd fun K hK => ?_
  subst hn
  obtain ⟨v', w', r1, r2, r3⟩ := run_append_m o.type hown hb ad c hr hm
  unfold Oper.wp
  simp only [execOp, ho, resolve, invoke, builtin, Sem.run_bind, Sem.run_pure, Result.andThen_ok, List.map_toArray, List.map_cons, List.map_nil, hs, hx, r1]
  exact hK _ _ (h v' w' r2 r3)
end
def decL (u : Nat) : List Int := (Lib.decDigits u).map fun b => (b.toNat : Int)
def intL (i : Int) : List Int := (Lib.itoa i).map fun b => (b.toNat : Int)
theorem decL_cells (u : Nat) : Lib.byteCells (Lib.decDigits u) = (decL u).map (Value.int .u8) := by simp [Lib.byteCells, decL]
theorem decL_len (u : Nat) : (decL u).length = Lib.nDigits u := by rw [decL, List.length_map, Lib.decDigits_length]
set_option maxHeartbeats 6400000 in
set_option maxRecDepth 100000 in
theorem appendUint_small {B : Nat} {w : World} {v : Value} {L : List Int} (u : Nat) (hu : u < 100) (hv : OwnM B w v L) (hb : B ≤ w.heap.size) (hm : L.length ≤ 5000000) :
    Calls Tryd.prog 58 #[v, .int .u64 u, .int .i64 10] w fun e w' => ∃ v', e = .returned v' ∧ OwnM B w' v' (L ++ decL u) ∧ Below B w w' ∧ Kept w w' := by
  have hsz : (⟨(Lib.decDigits u).toArray⟩ : ByteArray).size ≤ 2 := by
    have e : (⟨(Lib.decDigits u).toArray⟩ : ByteArray).size = (Lib.decDigits u).length := by simp [ByteArray.size]
    rw [e, Lib.decDigits_length]
    by_cases h10 : u < 10
    · rw [Lib.nDigits_small h10]; omega
    · rw [Lib.nDigits_big h10, Lib.nDigits_small (show u / 10 < 10 by omega)]; omega
  have hst : strL ⟨(Lib.decDigits u).toArray⟩ = decL u := by simp [strL, decL]
  have iu : (u : Int) < 100 := by omega
  have HV := Lib.hid hv
  have HST := Lib.hid hst
  have HSZ := Lib.hid hsz
  clear hv hst hsz
  go_enter Tryd.func58, Tryd.ntmps58
  go_wp2_with (first
    | (go_at_call 59; refine (Tryd.internal_strconv_small u hu _).mono ?_; rintro e w' ⟨rfl, rfl⟩)
    | (at_builtin; refine wpList_append_ms rfl _ _ rfl HV.out ⟨(Lib.decDigits u).toArray⟩ rfl rfl (by have := HSZ.out; omega) hb ?_))
  intro v' w1 hown' hgrow
  have HO := Lib.hid hown'
  have HG := Lib.hid hgrow
  clear hown' hgrow
  go_wp2
  go_ret
  refine ⟨v', rfl, ?_, (Below.refl B _).grown HG.out hb (fun r e => HV.out.first r e), Kept.of_grown HV.out HG.out⟩
  have := HO.out
  rwa [HST.out] at this
set_option maxHeartbeats 12800000 in
set_option maxRecDepth 100000 in
theorem appendUint_big {B : Nat} {w : World} {v : Value} {L : List Int} (u : Nat) (hu : 100 ≤ u) (hu64 : u < 18446744073709551616) (hv : OwnM B w v L) (hb : B ≤ w.heap.size) (hm : L.length ≤ 5000000) (htab : Lib.TabIs Tryd.prog w "internal/strconv.uint64pow10" .u64 Lib.pow10Tab) :
    Calls Tryd.prog 58 #[v, .int .u64 u, .int .i64 10] w fun e w' => ∃ v', e = .returned v' ∧ OwnM B w' v' (L ++ decL u) ∧ Below B w w' ∧ Kept w w' := by
  have hu1 : 1 ≤ u := by omega
  have hnd20 : Lib.nDigits u ≤ 20 := by have := Lib.numDigits_eq u hu1 hu64; split at this <;> omega
  have hal : Tryd.prog.arrayLen 93 = 24 := by kernel_rfl
  have hsl : ∀ W, (Instr.sliceAt 93 (.pointer (some ⟨w.heap.size, 0, none⟩)) none (some (.int .i64 (Lib.nDigits u : Int))) none).run Tryd.prog W = .ok (.slice (some ⟨w.heap.size, 0, none⟩) (Lib.nDigits u) 24) W := fun W => by
    rw [run_sliceAt_array_h W 93 ⟨w.heap.size, 0, none⟩ (by kernel_rfl) .i64 (Lib.nDigits u : Int) (by omega) (by rw [hal]; omega)]
    go_simp
  have hH0 := Lib.holds_zero0 w 93 (Lib.nDigits u) (by omega)
  have hfmt := Tryd.internal_strconv_formatBase10 w.heap.size 0 24 u (Array.replicate (Lib.nDigits u) 0) (w.alloc (.cells Lib.zeros24 93)) hH0 (by rw [Array.size_replicate]; exact Lib.lt_pow_nDigits u) hu64 (by rw [Array.size_replicate]; omega)
  rw [Array.size_replicate] at hfmt
  have HH0 := Lib.hid hH0
  have HV := Lib.hid hv
  have iu : (100 : Int) ≤ (u : Int) := by omega
  clear hH0 hal hv
  go_enter Tryd.func58, Tryd.ntmps58
  go_wp2_with (first
    | (go_at_call 60; refine (Tryd.internal_strconv_numDigits u hu1 hu64 _ (Lib.tabIs_alloc htab _)).mono ?_; rintro e w' ⟨rfl, rfl⟩))
  go_at_call 61
  refine hfmt.mono ?_
  rintro e w' ⟨rfl, k, v', dk, rfl, hF⟩
  have hcells : ∀ j u', ((decL u).map (Value.int .u8))[j]? = some u' → ((putRow (fun (b : UInt8) => Value.int .u8 (b.toNat : Int)) (w.alloc (.cells Lib.zeros24 93)) w.heap.size 0 dk).drewN k).cell? ((⟨w.heap.size, 0, none⟩ : Addr).add j) = some u' := by
    intro j u' hj
    rw [← decL_cells] at hj
    have hjl : j < (Lib.decDigits u).length := by
      have h5 := (List.getElem?_eq_some_iff.1 hj).1
      rwa [Lib.byteCells_length] at h5
    have e5 : (Lib.byteCells (Lib.decDigits u))[j]? = some (Value.int .u8 ((Lib.decDigits u)[j].toNat : Int)) := by simp [Lib.byteCells, hjl]
    rw [e5] at hj
    cases hj
    rw [Lib.row_is_numeral hF j hjl, Lib.add_plain, World.cell?_drewN]
    exact cell?_putRow (fun (b : UInt8) => Value.int .u8 (b.toNat : Int)) _ w.heap.size 0 _ dk HH0.out (by rw [hF.size, Array.size_replicate]) j (by rw [hF.size]; rw [Lib.decDigits_length] at hjl; exact hjl)
  obtain ⟨os, eo⟩ := Lib.fin_at w (.cells Lib.zeros24 93) dk k 0
  have hbel : Below w.heap.size w ((putRow (fun (b : UInt8) => Value.int .u8 (b.toNat : Int)) (w.alloc (.cells Lib.zeros24 93)) w.heap.size 0 dk).drewN k) := by rw [eo]; exact Lib.below_grow w.heap.size w (Nat.le_refl _) k os
  generalize (putRow (fun (b : UInt8) => Value.int .u8 (b.toNat : Int)) (w.alloc (.cells Lib.zeros24 93)) w.heap.size 0 dk).drewN k = W2 at hcells hbel ⊢
  have HC := Lib.hid hcells
  have HBE := Lib.hid hbel
  have HV2 := Lib.hid (HV.out.below hbel)
  have hdl := decL_len u
  have HDL := Lib.hid hdl
  clear eo HH0 hfmt hcells hbel hdl
  go_wp2_with (at_builtin; refine wpList_append_md rfl _ _ rfl HV2.out ⟨w.heap.size, 0, none⟩ (Lib.nDigits u) 24 HDL.out HC.out rfl rfl (by rw [HDL.out]; omega) (by have := HBE.out.size; omega) ?_)
  intro v2 w3 hown' hgrow
  have HO := Lib.hid hown'
  have HG := Lib.hid hgrow
  clear hown' hgrow
  go_wp2
  go_ret
  exact ⟨v2, rfl, HO.out, (HBE.out.mono hb).grown HG.out (Nat.le_trans hb HBE.out.size) (fun r e => HV2.out.first r e), (Kept.of_below HBE.out).trans (Kept.of_grown HV2.out HG.out)⟩
theorem appendUint_any {B : Nat} {w : World} {v : Value} {L : List Int} (u : Nat) (hu64 : u < 18446744073709551616) (hv : OwnM B w v L) (hb : B ≤ w.heap.size) (hm : L.length ≤ 5000000) (htab : Lib.TabIs Tryd.prog w "internal/strconv.uint64pow10" .u64 Lib.pow10Tab) :
    Calls Tryd.prog 58 #[v, .int .u64 u, .int .i64 10] w fun e w' => ∃ v', e = .returned v' ∧ OwnM B w' v' (L ++ decL u) ∧ Below B w w' ∧ Kept w w' := by
  by_cases h : u < 100
  · exact appendUint_small u h hv hb hm
  · exact appendUint_big u (by omega) hu64 hv hb hm htab
theorem intL_neg (u : Nat) (h : 1 ≤ u) : intL (-(u : Int)) = 45 :: decL u := by
  unfold intL
  rw [Lib.itoa_neg u h]
  rfl
theorem intL_nat (u : Nat) : intL (u : Int) = decL u := by
  unfold intL
  rw [Lib.itoa_nonneg]
  rfl
set_option maxHeartbeats 12800000 in
set_option maxRecDepth 100000 in
theorem iAppendInt_any {B : Nat} {w : World} {v : Value} {L : List Int} (i : Int) (h0 : -9223372036854775808 ≤ i) (h1 : i ≤ 9223372036854775807) (hv : OwnM B w v L) (hb : B ≤ w.heap.size) (hm : L.length ≤ 4000000) (htab : Lib.TabBelow Tryd.prog B w "internal/strconv.uint64pow10" .u64 Lib.pow10Tab) :
    Calls Tryd.prog 49 #[v, .int .i64 i, .int .i64 10] w fun e w' => ∃ v', e = .returned v' ∧ OwnM B w' v' (L ++ intL i) ∧ Below B w w' ∧ Kept w w' := by
  by_cases hneg : i < 0
  · obtain ⟨u, rfl⟩ : ∃ u : Nat, i = -(u : Int) := ⟨i.natAbs, by omega⟩
    have hu1 : 1 ≤ u := by omega
    have hu64 : u < 18446744073709551616 := by omega
    have hwr : IntKind.u64.wrap (-IntKind.u64.wrap (-(u : Int))) = (u : Int) := by rw [IntKind.wrap_u64, IntKind.wrap_u64]; omega
    rw [intL_neg u hu1]
    have HV := Lib.hid (hv.below (below_alloc w (.cells #[.int .u8 45] 5)))
    have HT := Lib.hid htab
    clear hv htab
    go_enter Tryd.func49, Tryd.ntmps49
    go_wp2_with (at_builtin; refine wpList_append_md (X := [45]) rfl _ _ rfl HV.out ⟨w.heap.size, 0, none⟩ 1 1 rfl (by intro j u' hj; match j, hj with | 0, hj => simp at hj; subst hj; simp [Addr.add]) rfl rfl (by simp; omega) (by simp; omega) ?_)
    intro v1 w1 hown1 hgrow
    have hnx1 : Below B w w1 := ((Below.refl B w).alloc hb _).grown hgrow (by simp; omega) (fun r e => HV.out.first r e)
    have hk1 : Kept w w1 := (Kept.of_below (below_alloc w _)).trans (Kept.of_grown HV.out hgrow)
    have htab1 : Lib.TabIs Tryd.prog w1 "internal/strconv.uint64pow10" .u64 Lib.pow10Tab := HT.out w1 hnx1
    have HN := Lib.hid hnx1
    have HK := Lib.hid hk1
    have HO := Lib.hid hown1
    have HT1 := Lib.hid htab1
    clear hnx1 hk1 hown1 htab1 hgrow HT
    go_wp2_with (go_at_call 58; refine (appendUint_any u hu64 HO.out (by have := HN.out.size; omega) (by simp; omega) HT1.out).mono ?_; rintro e w2 ⟨v2, rfl, hown2, hnx2, hk2⟩)
    go_wp2
    go_ret
    refine ⟨v2, rfl, ?_, HN.out.trans hnx2, HK.out.trans hk2⟩
    rw [List.append_assoc] at hown2
    exact hown2
  · obtain ⟨u, rfl⟩ : ∃ u : Nat, i = u := ⟨i.toNat, by omega⟩
    have hu64 : u < 18446744073709551616 := by omega
    rw [intL_nat]
    have HV := Lib.hid hv
    have HT := Lib.hid htab.here
    clear hv htab
    go_enter Tryd.func49, Tryd.ntmps49
    go_wp2_with (go_at_call 58; refine (appendUint_any u hu64 HV.out hb (by omega) HT.out).mono ?_; rintro e w2 ⟨v2, rfl, hown2, hnx2, hk2⟩)
    go_wp2
    first | go_ret | go_ret2
    exact ⟨v2, rfl, hown2, hnx2, hk2⟩
set_option maxHeartbeats 12800000 in
set_option maxRecDepth 100000 in
/-- strconv.AppendInt at base 10. -/
theorem appendInt_any {B : Nat} {w : World} {v : Value} {L : List Int} (i : Int) (h0 : -9223372036854775808 ≤ i) (h1 : i ≤ 9223372036854775807) (hv : OwnM B w v L) (hb : B ≤ w.heap.size) (hm : L.length ≤ 4000000) (htab : Lib.TabBelow Tryd.prog B w "internal/strconv.uint64pow10" .u64 Lib.pow10Tab) :
    Calls Tryd.prog 31 #[v, .int .i64 i, .int .i64 10] w fun e w' => ∃ v', e = .returned v' ∧ OwnM B w' v' (L ++ intL i) ∧ Below B w w' ∧ Kept w w' := by
  have HC := Lib.hid (iAppendInt_any i h0 h1 hv hb hm htab)
  clear hv htab
  go_enter Tryd.func31, Tryd.ntmps31
  go_wp2_with (go_at_call 49; refine HC.out.mono ?_; rintro e w2 ⟨v2, rfl, hown2, hnx2, hk2⟩)
  go_wp2
  go_ret
  exact ⟨v2, rfl, hown2, hnx2, hk2⟩
end Go.Proofs.YtjeknociobbhpaaDoor.Ord
