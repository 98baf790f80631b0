/-
  The words of an order: Text, of all orders.
-/
import Derived.Test.YtjeknociobbhpaaDoorMarkC
import Derived.Test.YtjeknociobbhpaaDoorOrdTB
import Derived.Deep.DeepCutAuto
namespace Go.Proofs.YtjeknociobbhpaaDoor.Ord
open Go.RowKit Base
set_option linter.unusedVariables false
set_option linter.unusedSimpArgs false

theorem decL_len20 (u : Nat) (h : u < 18446744073709551616) : (decL u).length ≤ 20 := by
  rw [decL_len]
  by_cases h1 : 1 ≤ u
  · have := Lib.numDigits_eq u h1 h
    split at this <;> omega
  · rw [Lib.nDigits_small (by omega)]
    omega
theorem intL_len (i : Int) (h0 : -9223372036854775808 ≤ i) (h1 : i ≤ 9223372036854775807) : (intL i).length ≤ 21 := by
  by_cases h : i < 0
  · obtain ⟨u, rfl⟩ : ∃ u : Nat, i = -(u : Int) := ⟨i.natAbs, by omega⟩
    rw [intL_neg u (by omega), List.length_cons]
    have := decL_len20 u (by omega)
    omega
  · obtain ⟨u, rfl⟩ : ∃ u : Nat, i = u := ⟨i.toNat, by omega⟩
    rw [intL_nat]
    have := decL_len20 u (by omega)
    omega
def pairT (p : Int × Int) : List Int := [32] ++ hexL [p.1] ++ ([61] ++ hexL [p.2])
def prsT (ps : List (Int × Int)) : List Int := ps.flatMap pairT
theorem prsT_take (ps : List (Int × Int)) (j : Nat) (p : Int × Int) (h : ps[j]? = some p) : prsT (ps.take (j + 1)) = prsT (ps.take j) ++ pairT p := by
  unfold prsT
  rw [List.take_add_one, h]
  simp
theorem prsT_len (ps : List (Int × Int)) : (prsT ps).length = ps.length * 6 := by
  induction ps with
  | nil => rfl
  | cons p ps ih =>
    show (pairT p ++ prsT ps).length = _
    rw [List.length_append, ih]
    simp [pairT, hexL_len]
    omega
def addrT (k a : Int) : List Int := if hasA k = true then [32] ++ intL a else []
def geT (k : Int) (g : Bool) : List Int := if (k == 60 && g) = true then [32, 71, 69] else []
def byteT (k b : Int) : List Int := if hasB k = true then [32] ++ hexL [b] else []
def dataT (D : List Int) : List Int := if D.length = 0 then [] else [32] ++ hexL D
/-- An order's words. -/
def textL (o : Or) : List Int := if known o.kind = false then [] else strL (nameB o.kind) ++ addrT o.kind o.addr ++ geT o.kind o.ge ++ byteT o.kind o.byte ++ prsT o.pairs ++ dataT o.data
theorem name_size (k : Int) : (nameB k).size ≤ 4 := by
  rcases kind_cases k with rfl | rfl | rfl | rfl | rfl | rfl | rfl | rfl | rfl | rfl | rfl | ⟨h0, h1, h2, h3, h4, h5, h6, h7, h8, h9, h10⟩
  case inr.inr.inr.inr.inr.inr.inr.inr.inr.inr.inr =>
    have hn : nameB k = ⟨#[]⟩ := by simp at h0 h1 h2 h3 h4 h5 h6 h7 h8 h9 h10; simp [nameB, *]
    rw [hn]; decide
  all_goals decide
theorem rowIn_keep {s : Nat} {w0 W : World} {v : Value} {L : List Int} (h : RowIn (fun k => k < s) .u8 w0 v L) (t : Below s w0 W) : RowIn (fun k => k < s) .u8 W v L := by
  obtain ⟨a, c, rfl, hr⟩ := h
  refine ⟨a, c, rfl, fun hne => ?_⟩
  obtain ⟨g, off, rfl, hg, hl, hi⟩ := hr hne
  exact ⟨g, off, rfl, hg, Nat.lt_of_lt_of_le hl t.size, fun i h => (cell_block (t.block g hg) _).trans (hi i h)⟩
/-- A cell of a block that holds no bytes. -/
def CellIn (W : World) (b i : Nat) (x : Value) : Prop := ∃ cs t fz, t ≠ 5 ∧ W.heap[b]? = some (.cells cs t fz) ∧ cs[i]? = some x
/-- What stands while a text grows: the text itself, and all blocks of Wr that hold no bytes. -/
structure KQ (s : Nat) (w0 Wr W : World) (v : Value) (L : List Int) : Prop where
  own : OwnM s W v L
  kept : Kept Wr W
  old : Below s w0 W
  lo : s ≤ W.heap.size
section
variable {s : Nat} {w0 Wr W W' : World} {v v' : Value} {L L' : List Int}
theorem KQ.below (h : KQ s w0 Wr W v L) (t : Below W.heap.size W W') : KQ s w0 Wr W' v L := ⟨h.own.below t, h.kept.trans (Kept.of_below t), h.old.trans (t.mono h.lo), Nat.le_trans h.lo t.size⟩
theorem KQ.alloc (h : KQ s w0 Wr W v L) (o : Obj) : KQ s w0 Wr (W.alloc o) v L := h.below (below_alloc W o)
theorem KQ.drew (h : KQ s w0 Wr W v L) : KQ s w0 Wr W.drew v L := h.below (Below.refl _ _).drew
theorem KQ.grown (h : KQ s w0 Wr W v L) (hown : OwnM s W' v' L') (hg : W.grownBy W' v.ownBlock) : KQ s w0 Wr W' v' L' := by
  have hb : Below s w0 W' := h.old.grown hg h.lo (fun r e => h.own.first r e)
  have hb2 : Below s W W' := (Below.refl s W).grown hg h.lo (fun r e => h.own.first r e)
  exact ⟨hown, h.kept.trans (Kept.of_grown h.own hg), hb, Nat.le_trans h.lo hb2.size⟩
theorem KQ.after (h : KQ s w0 Wr W v L) (hown : OwnM s W' v' L') (hb : Below s w0 W') (hk : Kept W W') (hl : s ≤ W'.heap.size) : KQ s w0 Wr W' v' L' := ⟨hown, h.kept.trans hk, hb, hl⟩
theorem KQ.next (h : KQ s w0 Wr W v L) (hown : OwnM s W' v' L') (hb : Below s W W') (hk : Kept W W') : KQ s w0 Wr W' v' L' := ⟨hown, h.kept.trans hk, h.old.trans hb, Nat.le_trans h.lo hb.size⟩
theorem Kept.cell {b i : Nat} {x : Value} (h : Kept Wr W) (hc : CellIn Wr b i x) : W.cell? ⟨b, i, none⟩ = some x := by
  obtain ⟨cs, t, fz, ht, hb, hx⟩ := hc
  simp [World.cell?, (h b cs t fz ht hb).trans hb, hx]
theorem KQ.cell {b i : Nat} {x : Value} (h : KQ s w0 Wr W v L) (hc : CellIn Wr b i x) : W.cell? ⟨b, i, none⟩ = some x := h.kept.cell hc
/-- A row of one byte made behind the text stands when the text grows. -/
theorem KQ.row_grown {Z : World} {g : Nat} {x : Int} (h : KQ s w0 Wr W v L) (hZ : Below W.heap.size W Z) (hg : Z.grownBy W' v.ownBlock) (hgl : W.heap.size ≤ g) (hr : RowOf .u8 Z (.slice (some ⟨g, 0, none⟩) 1 1) [x]) : RowOf .u8 W' (.slice (some ⟨g, 0, none⟩) 1 1) [x] := by
  obtain ⟨_, _, e, hc⟩ := hr
  injection e with e1 e2 e3
  obtain ⟨b, off, e4, hc⟩ := hc (by simp)
  rw [← e1] at e4
  injection e4 with e4
  injection e4 with e5 e6 _
  subst e5 e6
  refine ⟨_, _, rfl, fun _ => ⟨_, _, rfl, fun i hi => ?_⟩⟩
  have h0 := hc i hi
  refine (cell_block (hg.block g (World.block_lt_of_cell? Z ⟨g, 0 + i, none⟩ h0) fun ee => ?_) _).trans h0
  obtain ⟨c, fz, hk⟩ := h.own.kind g ee.symm
  have := lt_of_block hk
  omega
end
set_option maxRecDepth 100000 in
set_option maxHeartbeats 16000000 in
theorem text_any {w : World} {o : Or} {V : Value} (h : OrR w o V) (hps : o.pairs.length ≤ 300) (hds : o.data.length ≤ 300) (a0 : -9223372036854775808 ≤ o.addr) (a1 : o.addr ≤ 9223372036854775807) (b0 : 0 ≤ o.byte) (b1 : o.byte < 256) (pb : ∀ p ∈ o.pairs, (0 ≤ p.1 ∧ p.1 < 256) ∧ 0 ≤ p.2 ∧ p.2 < 256) (db : ∀ x ∈ o.data, 0 ≤ x ∧ x < 256)
    (ht : ∀ w', Below w.heap.size w w' → Lib.TabBelow Tryd.prog w.heap.size w' "internal/strconv.uint64pow10" .u64 Lib.pow10Tab) : Calls Tryd.prog 21 #[V] w fun e w' => e = .returned (.string (strOfNums (textL o))) ∧ Below w.heap.size w w' := by
  obtain ⟨vp, vd, rfl, hp, hd⟩ := h
  obtain ⟨k, a, b, g, ps, D⟩ := o
  simp only at hp hd hps hds a0 a1 b0 b1 pb db ⊢
  obtain ⟨s, hs⟩ : ∃ s, s = w.heap.size := ⟨_, rfl⟩
  have hpl := hp.low
  have hdl := hd.lowK
  rw [← hs] at ht hpl hdl ⊢
  obtain ⟨pa, pc, rfl⟩ := hp.form
  obtain ⟨da, dc, rfl⟩ : ∃ a c, vd = .slice a D.length c := by obtain ⟨a, c, e, _⟩ := hd; exact ⟨a, c, e⟩
  obtain ⟨pn, hpn⟩ : ∃ n, n = ps.length := ⟨_, rfl⟩
  obtain ⟨dn, hdn⟩ : ∃ n, n = D.length := ⟨_, rfl⟩
  have HPN := Lib.hid hpn
  have HDN := Lib.hid hdn
  rw [← hpn] at hps hpl ⊢
  rw [← hdn] at hds hdl ⊢
  obtain ⟨W1, hW1⟩ : ∃ W1, W1 = w.alloc (.cells #[.int .u8 k, .int .i64 a, .int .u8 b, .bool g, .slice pa pn pc, .slice da dn dc] 35) := ⟨_, rfl⟩
  have hb := below_alloc w (.cells #[.int .u8 k, .int .i64 a, .int .u8 b, .bool g, .slice pa pn pc, .slice da dn dc] 35)
  have hnw := heap_alloc_new w (.cells #[.int .u8 k, .int .i64 a, .int .u8 b, .bool g, .slice pa pn pc, .slice da dn dc] 35)
  rw [← hW1, ← hs] at hb hnw
  obtain ⟨ob, hob⟩ : ∃ ob, ob = s := ⟨_, rfl⟩
  rw [← hob] at hnw
  have HO : Hid (w.heap.size = ob) := Lib.hid (by rw [hob, hs])
  have HW1 := Lib.hid hW1.symm
  have HB1 := Lib.hid hb
  have HNW := Lib.hid hnw
  have HPS := Lib.hid hps
  have HDS := Lib.hid hds
  have HA0 := Lib.hid a0
  have HA1 := Lib.hid a1
  have HB0 := Lib.hid (And.intro b0 b1)
  have HPB := Lib.hid pb
  have HDB := Lib.hid db
  have HT := Lib.hid ht
  have HPL := Lib.hid hpl
  have HDL := Lib.hid hdl
  have HIL := Lib.hid (intL_len a a0 a1)
  have HSW : Hid (s ≤ w.heap.size) := Lib.hid (by omega)
  have hn : (nameB k).toList.isEmpty = !known k := by have := name_none k; simpa using this
  obtain ⟨x1, hx1⟩ : ∃ x, x = known k := ⟨_, rfl⟩
  obtain ⟨xA, hxA⟩ : ∃ x, x = hasA k := ⟨_, rfl⟩
  obtain ⟨xB, hxB⟩ : ∃ x, x = hasB k := ⟨_, rfl⟩
  obtain ⟨xG, hxG⟩ : ∃ x, x = (k == 60 && g) := ⟨_, rfl⟩
  obtain ⟨N, hN⟩ : ∃ N, N = nameB k := ⟨_, rfl⟩
  have hNs := name_size k
  have HNA : Hid (∀ w, Calls Tryd.prog 29 #[.int .u8 k] w fun e w' => e = .returned (.string N) ∧ w = w') := Lib.hid (by rw [hN]; exact name_any k)
  have HA : Hid (∀ w, Calls Tryd.prog 30 #[.int .u8 k] w fun e w' => e = .returned (.bool xA) ∧ w = w') := Lib.hid (by rw [hxA]; exact hasAddr_any k)
  have HY : Hid (∀ w, Calls Tryd.prog 32 #[.int .u8 k] w fun e w' => e = .returned (.bool xB) ∧ w = w') := Lib.hid (by rw [hxB]; exact hasByte_any k)
  obtain ⟨T, hT⟩ : ∃ T, T = textL ⟨k, a, b, g, ps, D⟩ := ⟨_, rfl⟩
  have hT1 : T = if x1 = false then [] else strL N ++ (if xA = true then [32] ++ intL a else []) ++ (if xG = true then [32, 71, 69] else []) ++ (if xB = true then [32] ++ hexL [b] else []) ++ prsT ps ++ (if dn = 0 then [] else [32] ++ hexL D) := by
    rw [hT, hx1, hxA, hxB, hxG, hN, hdn]; rfl
  rw [← hT]
  rw [← hN] at hn hNs
  rw [← hx1] at hn
  have HG : Hid ((k == 60) = true ∧ xG = g ∨ (k == 60) = false ∧ xG = false) := Lib.hid (by rw [hxG]; cases (k == 60) <;> simp)
  clear hT hx1 hxA hxB hxG hN hW1 hb hps hds a0 a1 b0 b1 pb db ht hp hd hpl hdl hpn hdn hs hob
  have hL0 : (strL N).length ≤ 4 := by rw [strL_len]; exact hNs
  cases x1
  · have HTT := Lib.hid hT1
    have hn : N.toList.isEmpty = true := hn
    clear hT1
    obtain ⟨c0, c1, c2, c3, c4, c5, _⟩ := cells6 hnw
    go_enter Tryd.func21, Tryd.ntmps21
    go_upto_region 1 with fail
    rw [HW1.out, HO.out]
    go_wp2_with fail
    refine (HNA.out _).mono ?_
    rintro e w' ⟨rfl, rfl⟩
    go_wp2_with fail
    go_ret
    exact ⟨by rw [HTT.out]; rfl, HB1.out⟩
  have hn : N.toList.isEmpty = false := hn
  have hown := conv_own W1 N (by omega)
  have hcb := conv_below W1 N
  have hcr := conv_run W1 N
  obtain ⟨W2, hW2⟩ : ∃ W2, W2 = Lib.bytesWorld W1 5 N := ⟨_, rfl⟩
  rw [← hW2] at hown hcb hcr
  obtain ⟨V2, hV2⟩ : ∃ V2, V2 = Value.slice (some ⟨W1.heap.size, 0, none⟩) N.size (grownCap W1 N.size 0 5) := ⟨_, rfl⟩
  rw [← hV2] at hown hcr
  obtain ⟨L0, hL0e⟩ : ∃ L0, L0 = strL N := ⟨_, rfl⟩
  rw [← hL0e] at hT1 hown hL0
  have HQ : Hid (KQ s w W1 W2 V2 L0) := Lib.hid ⟨hown.lower (Nat.le_trans HSW.out HB1.out.size), Kept.of_below hcb, HB1.out.trans (hcb.mono (Nat.le_trans HSW.out HB1.out.size)), Nat.le_trans HSW.out (Nat.le_trans HB1.out.size hcb.size)⟩
  have HLN : Hid (L0.length ≤ 4) := Lib.hid hL0
  obtain ⟨L1, hL1⟩ : ∃ L1, L1 = L0 ++ (if xA = true then [32] ++ intL a else []) := ⟨_, rfl⟩
  obtain ⟨L2, hL2⟩ : ∃ L2, L2 = L1 ++ (if xG = true then [32, 71, 69] else []) := ⟨_, rfl⟩
  obtain ⟨L3, hL3⟩ : ∃ L3, L3 = L2 ++ (if xB = true then [32] ++ hexL [b] else []) := ⟨_, rfl⟩
  have hTT : T = L3 ++ prsT ps ++ (if dn = 0 then [] else [32] ++ hexL D) := by rw [hT1, hL3, hL2, hL1]; simp
  have HTT := Lib.hid hTT
  have hLN1 : L1.length ≤ 26 := by
    have := HLN.out
    have := HIL.out
    rw [hL1, List.length_append]
    split <;> simp <;> omega
  have HLN1 := Lib.hid hLN1
  have hLN2 : L2.length ≤ 29 := by
    rw [hL2, List.length_append]
    split <;> simp <;> omega
  have HLN2 := Lib.hid hLN2
  have hLN3 : L3.length ≤ 32 := by
    rw [hL3, List.length_append]
    split <;> simp [hexL_len] <;> omega
  have HLN3 := Lib.hid hLN3
  have HL1 := Lib.hid hL1
  have HL2 := Lib.hid hL2
  have HL3 := Lib.hid hL3
  have HC0 : Hid (CellIn W1 ob 0 (.int .u8 k)) := Lib.hid ⟨_, _, _, by decide, HNW.out, rfl⟩
  have HC1 : Hid (CellIn W1 ob 1 (.int .i64 a)) := Lib.hid ⟨_, _, _, by decide, HNW.out, rfl⟩
  have HC2 : Hid (CellIn W1 ob 2 (.int .u8 b)) := Lib.hid ⟨_, _, _, by decide, HNW.out, rfl⟩
  have HC3 : Hid (CellIn W1 ob 3 (.bool g)) := Lib.hid ⟨_, _, _, by decide, HNW.out, rfl⟩
  have HC4 : Hid (CellIn W1 ob 4 (.slice pa pn pc)) := Lib.hid ⟨_, _, _, by decide, HNW.out, rfl⟩
  have HC5 : Hid (CellIn W1 ob 5 (.slice da dn dc)) := Lib.hid ⟨_, _, _, by decide, HNW.out, rfl⟩
  obtain ⟨c0, c1, c2, c3, c4, c5, _⟩ := cells6 hnw
  clear hT1 hTT hL0 hL0e hL1 hL2 hL3 hLN1 hLN2 hLN3 hnw hcb hown hW2 hV2 hNs
  go_enter Tryd.func21, Tryd.ntmps21
  go_upto_region 1 with fail
  rw [HW1.out, HO.out]
  go_wp2_with fail
  refine (HNA.out _).mono ?_
  rintro e w' ⟨rfl, rfl⟩
  go_wp2_with fail
  refine (HNA.out _).mono ?_
  rintro e w' ⟨rfl, rfl⟩
  go_upto_region 4 with fail
  clear c0 c1 c2 c3 c4 c5 hcr hn
  have c0 := HQ.out.cell HC0.out
  go_wp2_with fail
  refine (HA.out _).mono ?_
  rintro e w' ⟨rfl, rfl⟩
  go_upto_if 16 with fail
  clear c0
  go_cut [3] (fun v wx => Hid (KQ s w W1 wx v L1))
  case first =>
    cases xA
    · go_wp2_with fail
      go_meet
      case rel => exact Lib.hid (by have := HL1.out; simp at this; rw [this]; exact HQ.out)
    · have HC := HC1
      have hc := HQ.out.drew.cell HC1.out
      go_upto_region 5 with fail
      first
      | (go_region_held3 (fun Z => Z.cell? ⟨ob, 1, none⟩ = some (.int .i64 a))
          (with_reducible (first | assumption | exact HQX.out.cell HC.out | exact (HQ.out.alloc _).drew.cell HC.out | exact HQ9.out.cell HC.out))
          (first
            | (refine step_append_m (by rfl) _ _ (by rfl) (HQ.out.alloc _).drew.own (row_one8d _ _ _) ⟨_, _, _, rfl⟩ (by rfl) (by rfl) (by have := HLN.out; simp; omega) (HQ.out.alloc _).drew.lo ?_; intro v9 W9 hown hg; have HQ9 := Lib.hid ((HQ.out.alloc _).drew.grown hown hg); clear hown hg)
            | (go_at_call 31; refine (appendInt_any a HA0.out HA1.out HQ9.out.own HQ9.out.lo (by have := HLN.out; simp; omega) (HT.out _ HQ9.out.old)).mono ?_; rintro e W10 ⟨u, rfl, hu, hbb, hk⟩; have HQX := Lib.hid (HQ9.out.next hu hbb hk); clear hu hbb hk)))
      | fail
      all_goals
        clear HQ9
        go_wp2_with fail
        go_meet
        case rel => exact Lib.hid (by have := HL1.out; simp only [if_true] at this; rw [this, ← List.append_assoc]; exact HQX.out)
  case rest =>
  have HQ := hcut
  have c0 := HQ.out.cell HC0.out
  have c3 := HQ.out.cell HC3.out
  go_upto_region 6 with fail
  go_cut [29] (fun t wx => t = .bool xG ∧ wx = wc)
  case first =>
    rcases HG.out with ⟨h60, hg⟩ | ⟨h60, hg⟩
    · subst hg
      go_wp2_with fail
      go_meet
      case rel => exact ⟨by simp, rfl⟩
    · subst hg
      go_wp2_with fail
      go_meet
      case rel => exact ⟨by simp, rfl⟩
  case rest =>
  obtain ⟨rfl, rfl⟩ := hcut
  clear c0 c3
  go_upto_if 29 with fail
  go_cut [3] (fun v wx => Hid (KQ s w W1 wx v L2))
  case first =>
    cases xG
    · go_wp2_with fail
      go_meet
      case rel => exact Lib.hid (by have := HL2.out; simp at this; rw [this]; exact HQ.out)
    · go_wp2_with (at_builtin; refine wpList_append_ms rfl _ _ rfl HQ.out.own ⟨#[32, 71, 69]⟩ rfl rfl (by have := HLN1.out; show L1.length + 3 ≤ 10000000; omega) HQ.out.lo ?_)
      intro v9 W9 hown hg
      have HQ9 := Lib.hid (HQ.out.grown hown hg)
      clear hown hg
      go_wp2_with fail
      go_meet
      case rel => exact Lib.hid (by have := HL2.out; simp only [if_true] at this; rw [this]; exact HQ9.out)
  case rest =>
  have HQ := hcut
  have c0 := HQ.out.cell HC0.out
  go_wp2_with fail
  refine (HY.out _).mono ?_
  rintro e w' ⟨rfl, rfl⟩
  go_upto_if 34 with fail
  clear c0
  go_cut [3] (fun v wx => Hid (KQ s w W1 wx v L3))
  case first =>
    cases xB
    · go_wp2_with fail
      go_meet
      case rel => exact Lib.hid (by have := HL3.out; simp at this; rw [this]; exact HQ.out)
    · have HC := HC2
      have hc := HQ.out.drew.cell HC2.out
      go_upto_region 9 with fail
      first
      | (go_region_held3 (fun Z => Z.cell? ⟨ob, 2, none⟩ = some (.int .u8 b))
          (with_reducible (first | assumption | exact HQX.out.cell HC.out | exact (HQ.out.alloc _).drew.cell HC.out | exact ((HQ.out.alloc _).alloc _).drew.cell HC.out | exact HQ9.out.cell HC.out | exact (HQ9.out.alloc _).cell HC.out))
          (first
            | (refine step_append_m (by rfl) _ _ (by rfl) (HQ.out.alloc _).drew.own (row_one8d _ _ _) ⟨_, _, _, rfl⟩ (by rfl) (by rfl) (by have := HLN2.out; simp; omega) (HQ.out.alloc _).drew.lo ?_; intro v9 W9 hown hg; have HQ9 := Lib.hid ((HQ.out.alloc _).drew.grown hown hg); clear hown hg)
            | (refine step_append_m (by rfl) _ _ (by rfl) ((HQ.out.alloc _).alloc _).drew.own (row_2b _ _ _) ⟨_, _, _, rfl⟩ (by rfl) (by rfl) (by have := HLN2.out; simp; omega) ((HQ.out.alloc _).alloc _).drew.lo ?_; intro v9 W9 hown hg; have HQ9 := Lib.hid (((HQ.out.alloc _).alloc _).drew.grown hown hg); have HR9 := Lib.hid (HQ.out.row_grown ((((Below.refl _ _).alloc (Nat.le_refl _) _).alloc (by simp) _).drew) hg (by omega) (row_2a _ _ b)); clear hown hg)
            | (refine step_append_m (by rfl) _ _ (by rfl) ((HQ.out.alloc _).alloc _).drew.own (row_2a _ _ _) ⟨_, _, _, rfl⟩ (by rfl) (by rfl) (by have := HLN2.out; simp; omega) ((HQ.out.alloc _).alloc _).drew.lo ?_; intro v9 W9 hown hg; have HQ9 := Lib.hid (((HQ.out.alloc _).alloc _).drew.grown hown hg); have HR9 := Lib.hid (HQ.out.row_grown ((((Below.refl _ _).alloc (Nat.le_refl _) _).alloc (by simp) _).drew) hg (by omega) (row_2b _ _ b)); clear hown hg)
            | (go_at_call 33; first
                | (refine (sixteens_any HQ9.out.own HQ9.out.old HQ9.out.lo (.inr ⟨HR9.out, by simp⟩) (by simp; exact HB0.out) (by have := HLN2.out; simp; omega)).mono ?_; rintro e W10 ⟨u, rfl, hu, hbb, hk⟩; have HQX := Lib.hid (HQ9.out.after hu hbb hk (Nat.le_trans HSW.out hbb.size)); clear hu hbb hk)
                | (refine (sixteens_any (HQ9.out.alloc _).own (HQ9.out.alloc _).old (HQ9.out.alloc _).lo (.inr ⟨row_one8 _ _ _, by simp⟩) (by simp; exact HB0.out) (by have := HLN2.out; simp; omega)).mono ?_; rintro e W10 ⟨u, rfl, hu, hbb, hk⟩; have HQX := Lib.hid ((HQ9.out.alloc _).after hu hbb hk (Nat.le_trans HSW.out hbb.size)); clear hu hbb hk))))
      | fail
      all_goals
        clear HQ9
        go_wp2_with fail
        go_meet
        case rel => exact Lib.hid (by have := HL3.out; simp only [if_true] at this; rw [this, ← List.append_assoc]; exact HQX.out)
  case rest =>
  have HQ := hcut
  have c4 := HQ.out.cell HC4.out
  go_upto_region 11 with fail
  go_loopw [3, 45] (fun v i wr => ∃ j : Nat, j ≤ pn ∧ i = .int .i64 j ∧ Hid (KQ s w W1 wr v (L3 ++ prsT (ps.take j)))) (fun _ i _ => pn - (intOf i).toNat)
  case atStart => exact ⟨0, by omega, rfl, Lib.hid (by simpa [prsT] using HQ.out)⟩
  case round =>
    obtain ⟨j, hj, rfl, hq⟩ := hrel
    clear c4
    by_cases hjn : j < pn
    · have hjni : (j : Int) < (pn : Int) := by omega
      have hp300 : pn ≤ 300 := HPS.out
      have hj0 : (0 : Int) ≤ (j : Int) := Int.natCast_nonneg _
      obtain ⟨x, hxx⟩ : ∃ x, ps[j]? = some x := ⟨_, List.getElem?_eq_getElem (by rw [← HPN.out]; exact hjn)⟩
      have hxb := HPB.out x (List.mem_of_getElem? hxx)
      obtain ⟨_, _, e, hcc⟩ := (HPL.out.belowS hq.out.old)
      injection e with e1 e2 e3
      subst e1 e3
      clear e2
      obtain ⟨gg, off, rfl, _, hcc⟩ := hcc (by intro e; rw [e] at hxx; simp at hxx)
      obtain ⟨d0, d1⟩ := hcc j x hxx
      have HPT := Lib.hid (prsT_take ps j x hxx)
      have HPTL : Hid ((prsT (ps.take j)).length ≤ 1800) := Lib.hid (by have := HPS.out; rw [prsT_len, List.length_take]; omega)
      obtain ⟨y1, y2⟩ := x
      simp only at d0 d1 hxb
      have HY1 := Lib.hid hxb.1
      have HY2 := Lib.hid hxb.2
      have HJ := hq
      clear hcc hxx hxb hq
      obtain ⟨LJ, hLJ⟩ : ∃ LJ, LJ = L3 ++ prsT (ps.take j) := ⟨_, rfl⟩
      rw [← hLJ] at HJ
      have HLJ : Hid (LJ.length ≤ 1900) := Lib.hid (by have := HLN3.out; have := HPTL.out; rw [hLJ, List.length_append]; omega)
      have HPT2 : Hid (L3 ++ prsT (ps.take (j + 1)) = LJ ++ [32] ++ hexL [y1] ++ [61] ++ hexL [y2]) := Lib.hid (by rw [HPT.out, hLJ]; simp [pairT])
      clear hLJ
      go_upto_region 13 with fail
      obtain ⟨W3, hW3⟩ : ∃ W3, W3 = wr.alloc (.cells #[.int .u8 y1, .int .u8 y2] 58) := ⟨_, rfl⟩
      have hnw := heap_alloc_new wr (.cells #[.int .u8 y1, .int .u8 y2] 58)
      have hbl := below_alloc wr (.cells #[.int .u8 y1, .int .u8 y2] 58)
      rw [← hW3] at hnw hbl ⊢
      obtain ⟨pb, hpb⟩ : ∃ pb, pb = wr.heap.size := ⟨_, rfl⟩
      rw [← hpb] at hnw ⊢
      have HJ3 := Lib.hid (HJ.out.below hbl)
      have HQ : Hid (KQ s w W3 W3 _ LJ) := Lib.hid ⟨HJ3.out.own, Kept.refl _, HJ3.out.old, HJ3.out.lo⟩
      have HC : Hid (CellIn W3 pb 0 (.int .u8 y1)) := Lib.hid ⟨_, _, _, by decide, hnw, rfl⟩
      have HCB : Hid (CellIn W3 pb 1 (.int .u8 y2)) := Lib.hid ⟨_, _, _, by decide, hnw, rfl⟩
      clear hnw hbl hW3 hpb d0 d1 HJ
      have hc := HQ.out.drew.cell HC.out
      first
      | (go_region_held3 (fun Z => Z.cell? ⟨pb, 0, none⟩ = some (.int .u8 y1))
          (with_reducible (first | assumption | exact HQX.out.cell HC.out | exact (HQ.out.alloc _).drew.cell HC.out | exact ((HQ.out.alloc _).alloc _).drew.cell HC.out | exact HQ9.out.cell HC.out | exact (HQ9.out.alloc _).cell HC.out))
          (first
            | (refine step_append_m (by rfl) _ _ (by rfl) (HQ.out.alloc _).drew.own (row_one8d _ _ _) ⟨_, _, _, rfl⟩ (by rfl) (by rfl) (by have := HLJ.out; simp; omega) (HQ.out.alloc _).drew.lo ?_; intro v9 W9 hown hg; have HQ9 := Lib.hid ((HQ.out.alloc _).drew.grown hown hg); clear hown hg)
            | (refine step_append_m (by rfl) _ _ (by rfl) ((HQ.out.alloc _).alloc _).drew.own (row_2b _ _ _) ⟨_, _, _, rfl⟩ (by rfl) (by rfl) (by have := HLJ.out; simp; omega) ((HQ.out.alloc _).alloc _).drew.lo ?_; intro v9 W9 hown hg; have HQ9 := Lib.hid (((HQ.out.alloc _).alloc _).drew.grown hown hg); have HR9 := Lib.hid (HQ.out.row_grown ((((Below.refl _ _).alloc (Nat.le_refl _) _).alloc (by simp) _).drew) hg (by omega) (row_2a _ _ y1)); clear hown hg)
            | (refine step_append_m (by rfl) _ _ (by rfl) ((HQ.out.alloc _).alloc _).drew.own (row_2a _ _ _) ⟨_, _, _, rfl⟩ (by rfl) (by rfl) (by have := HLJ.out; simp; omega) ((HQ.out.alloc _).alloc _).drew.lo ?_; intro v9 W9 hown hg; have HQ9 := Lib.hid (((HQ.out.alloc _).alloc _).drew.grown hown hg); have HR9 := Lib.hid (HQ.out.row_grown ((((Below.refl _ _).alloc (Nat.le_refl _) _).alloc (by simp) _).drew) hg (by omega) (row_2b _ _ y1)); clear hown hg)
            | (go_at_call 33; first
                | (refine (sixteens_any HQ9.out.own HQ9.out.old HQ9.out.lo (.inr ⟨HR9.out, by simp⟩) (by simp; exact HY1.out) (by have := HLJ.out; simp; omega)).mono ?_; rintro e W10 ⟨u, rfl, hu, hbb, hk⟩; have HQX := Lib.hid (HQ9.out.after hu hbb hk (Nat.le_trans HSW.out hbb.size)); clear hu hbb hk)
                | (refine (sixteens_any (HQ9.out.alloc _).own (HQ9.out.alloc _).old (HQ9.out.alloc _).lo (.inr ⟨row_one8 _ _ _, by simp⟩) (by simp; exact HY1.out) (by have := HLJ.out; simp; omega)).mono ?_; rintro e W10 ⟨u, rfl, hu, hbb, hk⟩; have HQX := Lib.hid ((HQ9.out.alloc _).after hu hbb hk (Nat.le_trans HSW.out hbb.size)); clear hu hbb hk))))
      | fail
      all_goals
        have HLJ2 : Hid ((LJ ++ [32] ++ hexL [y1]).length ≤ 1910) := Lib.hid (by have := HLJ.out; simp [hexL_len]; omega)
        obtain ⟨LK, hLK⟩ : ∃ LK, LK = LJ ++ [32] ++ hexL [y1] := ⟨_, rfl⟩
        rw [← hLK] at HQX HPT2 HLJ2
        have HQ4 := HQX
        have HC4 := HC
        clear HQ9 HC hc HQ hLK HQX
        have HQ := HQ4
        have HC := HCB
        go_upto_region 14 with fail
        have hc := HQ.out.drew.cell HC.out
        first
        | (go_region_held3 (fun Z => Z.cell? ⟨pb, 1, none⟩ = some (.int .u8 y2))
            (with_reducible (first | assumption | exact HQZ.out.cell HC.out | exact (HQ.out.alloc _).drew.cell HC.out | exact ((HQ.out.alloc _).alloc _).drew.cell HC.out | exact HQ8.out.cell HC.out | exact (HQ8.out.alloc _).cell HC.out))
            (first
              | (refine step_append_m (by rfl) _ _ (by rfl) (HQ.out.alloc _).drew.own (row_one8d _ _ _) ⟨_, _, _, rfl⟩ (by rfl) (by rfl) (by have := HLJ2.out; simp; omega) (HQ.out.alloc _).drew.lo ?_; intro v8 W8 hown hg; have HQ8 := Lib.hid ((HQ.out.alloc _).drew.grown hown hg); clear hown hg)
              | (refine step_append_m (by rfl) _ _ (by rfl) ((HQ.out.alloc _).alloc _).drew.own (row_2b _ _ _) ⟨_, _, _, rfl⟩ (by rfl) (by rfl) (by have := HLJ2.out; simp; omega) ((HQ.out.alloc _).alloc _).drew.lo ?_; intro v8 W8 hown hg; have HQ8 := Lib.hid (((HQ.out.alloc _).alloc _).drew.grown hown hg); have HR8 := Lib.hid (HQ.out.row_grown ((((Below.refl _ _).alloc (Nat.le_refl _) _).alloc (by simp) _).drew) hg (by omega) (row_2a _ _ y2)); clear hown hg)
              | (refine step_append_m (by rfl) _ _ (by rfl) ((HQ.out.alloc _).alloc _).drew.own (row_2a _ _ _) ⟨_, _, _, rfl⟩ (by rfl) (by rfl) (by have := HLJ2.out; simp; omega) ((HQ.out.alloc _).alloc _).drew.lo ?_; intro v8 W8 hown hg; have HQ8 := Lib.hid (((HQ.out.alloc _).alloc _).drew.grown hown hg); have HR8 := Lib.hid (HQ.out.row_grown ((((Below.refl _ _).alloc (Nat.le_refl _) _).alloc (by simp) _).drew) hg (by omega) (row_2b _ _ y2)); clear hown hg)
              | (go_at_call 33; first
                  | (refine (sixteens_any HQ8.out.own HQ8.out.old HQ8.out.lo (.inr ⟨HR8.out, by simp⟩) (by simp; exact HY2.out) (by have := HLJ2.out; simp; omega)).mono ?_; rintro e W11 ⟨u2, rfl, hu, hbb, hk⟩; have HQZ := Lib.hid (HQ8.out.after hu hbb hk (Nat.le_trans HSW.out hbb.size)); clear hu hbb hk)
                  | (refine (sixteens_any (HQ8.out.alloc _).own (HQ8.out.alloc _).old (HQ8.out.alloc _).lo (.inr ⟨row_one8 _ _ _, by simp⟩) (by simp; exact HY2.out) (by have := HLJ2.out; simp; omega)).mono ?_; rintro e W11 ⟨u2, rfl, hu, hbb, hk⟩; have HQZ := Lib.hid ((HQ8.out.alloc _).after hu hbb hk (Nat.le_trans HSW.out hbb.size)); clear hu hbb hk))))
        | fail
        all_goals
          have HJZ : Hid (KQ s w W1 W11 u2 (L3 ++ prsT (ps.take (j + 1)))) := Lib.hid (by rw [HPT2.out]; exact ⟨HQZ.out.own, HJ3.out.kept.trans HQZ.out.kept, HQZ.out.old, HQZ.out.lo⟩)
          clear HQ8 HQZ hc
          go_wp2_with fail
          go_roundw
          case rel => exact ⟨j + 1, by omega, by go_num, HJZ⟩
          case measure => simp [intOf]; omega
    · obtain rfl : pn = j := by omega
      have hq2 := hq.out
      rw [List.take_of_length_le (by rw [← HPN.out]; exact Nat.le_refl _)] at hq2
      obtain ⟨L4, hL4⟩ : ∃ L4, L4 = L3 ++ prsT ps := ⟨_, rfl⟩
      rw [← hL4] at hq2
      have HLN4 : Hid (L4.length ≤ 2000) := Lib.hid (by have := HLN3.out; have := HPS.out; have := HPN.out; rw [hL4, List.length_append, prsT_len]; omega)
      have HTT : Hid (T = L4 ++ (if dn = 0 then [] else [32] ++ hexL D)) := Lib.hid (by rw [HTT.out, hL4])
      have HQ := Lib.hid hq2
      clear hq hq2 hL4
      have c5 := HQ.out.cell HC5.out
      by_cases hd0 : dn = 0
      · have hd1 : ¬ (0 : Int) < (dn : Int) := by omega
        have hd2 : T = L4 := by rw [HTT.out, if_pos hd0]; simp
        have HD2 := Lib.hid hd2
        have hstr := row_str HQ.out.own.row
        clear hd0 hd2
        go_wp2_with fail
        go_ret
        exact ⟨by rw [HD2.out] <;> first | rfl | simp, HQ.out.old⟩
      · have hd1 : (0 : Int) < (dn : Int) := by omega
        have hd2 : T = L4 ++ [32] ++ hexL D := by rw [HTT.out, if_neg hd0, ← List.append_assoc]
        have HD2 := Lib.hid hd2
        have HC := HC5
        clear hd0 hd2
        go_upto_region 17 with fail
        clear c5
        have hc := HQ.out.drew.cell HC.out
        first
        | (go_region_held3 (fun Z => Z.cell? ⟨ob, 5, none⟩ = some (.slice da dn dc))
            (with_reducible (first | assumption | exact HQX.out.cell HC.out | exact (HQ.out.alloc _).drew.cell HC.out | exact HQ9.out.cell HC.out))
            (first
              | (refine step_append_m (by rfl) _ _ (by rfl) (HQ.out.alloc _).drew.own (row_one8d _ _ _) ⟨_, _, _, rfl⟩ (by rfl) (by rfl) (by have := HLN4.out; simp; omega) (HQ.out.alloc _).drew.lo ?_; intro v9 W9 hown hg; have HQ9 := Lib.hid ((HQ.out.alloc _).drew.grown hown hg); clear hown hg)
              | (go_at_call 33; refine (sixteens_any HQ9.out.own HQ9.out.old HQ9.out.lo (.inl (rowIn_keep HDL.out HQ9.out.old)) HDB.out (by have := HLN4.out; have := HDS.out; have := HDN.out; simp; omega)).mono ?_; rintro e W10 ⟨u, rfl, hu, hbb, hk⟩; have HQX := Lib.hid (HQ9.out.after hu hbb hk (Nat.le_trans HSW.out hbb.size)); clear hu hbb hk)))
        | fail
        all_goals
          have hstr := row_str HQX.out.own.row
          clear HQ9 hc
          go_wp2_with fail
          go_ret
          exact ⟨by rw [HD2.out] <;> first | rfl | simp, HQX.out.old⟩
end Go.Proofs.YtjeknociobbhpaaDoor.Ord
