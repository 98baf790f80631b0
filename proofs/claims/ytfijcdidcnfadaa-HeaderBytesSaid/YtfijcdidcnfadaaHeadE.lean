/-
  The statements' own example of headers.
-/
import Derived.Test.YtfijcdidcnfadaaHeadEB
namespace Go.Proofs.Ytfijcdidcnfadaa.Head
open Go.RowKit Base
set_option linter.unusedVariables false

def exB : List Int := [0, 0, 2, 0, 7, 241]
def zcnt : Array Value := #[.int .u16 0] ++ Array.replicate 64 (.int .u16 0) ++ #[.int .i64 0]
theorem info_cnt : (Try.prog.info? 50).map (fun i => (i.zero, i.size)) = some (some (.agg zcnt), 66) := by kernel_rfl
theorem cnt_new (w : World) : CntAt (w.alloc (.cells zcnt 50)) w.heap.size 0 [] := by
  refine ⟨zcnt, heap_alloc_new w _, ?_⟩
  have hg : ∀ i, i < 64 → zcnt[1 + i]? = some (.int .u16 0) := fun i hi => by
    unfold zcnt
    rw [Array.getElem?_append_left (by simp; omega), Array.getElem?_append_right (by simp)]
    show (Array.replicate 64 (Value.int .u16 0))[1 + i - 1]? = _
    rw [Array.getElem?_replicate, if_pos (by omega)]
  exact ⟨by kernel_rfl, by kernel_rfl, fun i hi => ⟨0, hg i hi⟩, fun i hi => by simp at hi, by kernel_rfl, by simp⟩
theorem own_lit {s : Nat} (w : World) (hs : s ≤ w.heap.size) (cs : Array Value) (L : List Int) (h : cs = (L.map (Value.int .u8)).toArray) (hl : L.length ≤ maxLen) (n : Nat) (hn : n = L.length) : OwnBytes s (w.alloc (.cells cs 5)) (.slice (some ⟨w.heap.size, 0, none⟩) n n) L := by
  subst h hn
  exact ⟨by simp, .inr ⟨w.heap.size, _, _, rfl, hs, heap_alloc_new w _, Nat.le_refl _, hl, by simp, by simpa using List.take_of_length_le (by simp)⟩⟩
theorem own_string {s : Nat} {w : World} {v : Value} {L : List Int} (h : OwnBytes s w v L) (d : Array UInt8) (hd : strOfNums L = ⟨d⟩) : (convert 22 9 v).run Try.prog w = .ok (.string ⟨d⟩) w := by rw [← hd]; exact row_str h.row
theorem parse_at (h : Hd) (M : List Int) (v : Value) (L : List Int) (w : World) (hL : L = hdL h ++ M) (hh : headOf (hdL h ++ M) = h) (hr : CutRow w v L) (hm : L.length ≤ 100000) (hby : ∀ x ∈ L, 0 ≤ x ∧ x < 256) (hx : h.ty ≤ 8) :
    Calls Try.prog 16 #[v] w fun e w' => ∃ p, e = .returned (.tuple #[.agg (hdA h), p, .int .i64 0]) ∧ OwnBytes w.heap.size w' p M ∧ Below w.heap.size w w' := by
  subst hL
  have := parse_ok v (hdL h ++ M) w hr (by simp [hdL]) hm hby (by simpa [hdL] using hx)
  rw [hh, show (hdL h ++ M).drop 5 = M from rfl] at this
  exact this
theorem ans_some (h : Hd) (hk : h.Ok) (e : Int) (L : List Int) (w : World) (hL : ansL h e = some L) : Calls Try.prog 18 #[.agg (hdA h), .int .i64 e] w fun r w' => ∃ p, r = .returned (.tuple #[p, .bool true]) ∧ OwnBytes w.heap.size w' p L ∧ Below w.heap.size w w' := by
  refine (answer_any h hk e w).mono fun r w' hp => ?_
  rw [hL] at hp
  obtain ⟨h1, p, h2, h3⟩ := hp
  exact ⟨p, h2, h3, h1⟩
theorem ans_none (h : Hd) (hk : h.Ok) (e : Int) (w : World) (hL : ansL h e = none) : Calls Try.prog 18 #[.agg (hdA h), .int .i64 e] w fun r w' => r = .returned (.tuple #[.slice none 0 0, .bool false]) ∧ Below w.heap.size w w' := by
  refine (answer_any h hk e w).mono fun r w' hp => ?_
  rw [hL] at hp
  exact ⟨hp.2, hp.1⟩
def exH : Hd := ⟨0, 0, 2, 7⟩
def exN : Hd := ⟨2, 0, 1, 7⟩
theorem exH_ok : exH.Ok := ⟨by decide, by decide, by decide, by decide, by decide, by decide, by decide, by decide⟩
theorem exN_ok : exN.Ok := ⟨by decide, by decide, by decide, by decide, by decide, by decide, by decide, by decide⟩
theorem hd0_ok : hd0.Ok := ⟨by decide, by decide, by decide, by decide, by decide, by decide, by decide, by decide⟩
theorem call_parse_ex (v : Value) (w : World) (hr : CutRow w v exB) : Calls Try.prog 16 #[v] w fun e w' => ∃ p, e = .returned (.tuple #[.agg #[.int .u8 0, .int .u8 0, .int .u8 2, .int .u16 7], p, .int .i64 0]) ∧ OwnBytes w.heap.size w' p [241] ∧ Below w.heap.size w w' :=
  parse_at exH [241] v exB w (by with_unfolding_all rfl) (by with_unfolding_all rfl) hr (by simp [exB]) (by decide) (by decide)
theorem call_parse_n (v : Value) (w : World) (hr : CutRow w v [2, 0, 1, 0, 7, 0]) : Calls Try.prog 16 #[v] w fun e w' => ∃ p, e = .returned (.tuple #[.agg #[.int .u8 2, .int .u8 0, .int .u8 1, .int .u16 7], p, .int .i64 0]) ∧ OwnBytes w.heap.size w' p [0] ∧ Below w.heap.size w w' :=
  parse_at exN [0] v [2, 0, 1, 0, 7, 0] w (by with_unfolding_all rfl) (by with_unfolding_all rfl) hr (by simp) (by decide) (by decide)
theorem call_ans0 (w : World) : Calls Try.prog 18 #[.agg #[.int .u8 0, .int .u8 0, .int .u8 2, .int .u16 7], .int .i64 0] w fun r w' => ∃ p, r = .returned (.tuple #[p, .bool true]) ∧ OwnBytes w.heap.size w' p [2, 0, 0, 0, 7, 0] ∧ Below w.heap.size w w' :=
  ans_some exH exH_ok 0 _ w (by with_unfolding_all rfl)
theorem call_ans30 (w : World) : Calls Try.prog 18 #[.agg #[.int .u8 0, .int .u8 0, .int .u8 2, .int .u16 7], .int .i64 30] w fun r w' => ∃ p, r = .returned (.tuple #[p, .bool true]) ∧ OwnBytes w.heap.size w' p [2, 0, 1, 0, 7, 0] ∧ Below w.heap.size w w' :=
  ans_some exH exH_ok 30 _ w (by with_unfolding_all rfl)
theorem call_ans31 (w : World) : Calls Try.prog 18 #[.agg #[.int .u8 0, .int .u8 0, .int .u8 0, .int .u16 0], .int .i64 31] w fun r w' => r = .returned (.tuple #[.slice none 0 0, .bool false]) ∧ Below w.heap.size w w' :=
  ans_none hd0 hd0_ok 31 w (by with_unfolding_all rfl)
theorem call_write_ex (v : Value) (w : World) (hr : CutRow w v [241]) : Calls Try.prog 25 #[.agg #[.int .u8 0, .int .u8 0, .int .u8 2, .int .u16 7], v] w fun e w' => ∃ p, e = .returned p ∧ OwnBytes w.heap.size w' p exB ∧ Below w.heap.size w w' :=
  hwrite_any exH exH_ok v [241] w hr.1 (by
    obtain ⟨a, c, rfl, _, h⟩ := hr.2
    intro n c' e
    injection e with e1 e2 e3
    rw [← e3]; exact h e1) (by simp)
theorem short_ex {s : Nat} {w : World} (h : OwnBytes s w (.slice (some ⟨s, 0, none⟩) 6 6) exB) : Calls Try.prog 16 #[.slice (some ⟨s, 0, none⟩) 4 6] w fun e w' => e = .returned (.tuple #[.agg #[.int .u8 0, .int .u8 0, .int .u8 0, .int .u16 0], .slice none 0 0, .int .i64 20]) ∧ Below w.heap.size w w' := by
  refine parse_short _ [0, 0, 2, 0] w ?_ (by simp)
  obtain ⟨_, hc⟩ := RowOf.reads h.row
  refine ⟨_, 6, rfl, fun _ => ⟨s, 0, rfl, fun i hi => ?_⟩⟩
  have hi : i < 4 := hi
  have := hc i (.int .u8 ([0, 0, 2, 0][i]?.getD 0)) (by
    match i, hi with
    | 0, _ => rfl
    | 1, _ => rfl
    | 2, _ => rfl
    | 3, _ => rfl)
  rw [add_off] at this
  exact this
/-- The bytes and the header of the example. -/
structure ST (s : Nat) (w : World) (g : Nat) (r : Value) (W : World) : Prop where
  b : OwnBytes s W (.slice (some ⟨s, 0, none⟩) 6 6) exB
  r : OwnBytes s W r [241]
  blk : W.heap[g]? = some (.cells #[.int .u8 0, .int .u8 0, .int .u8 2, .int .u16 7] 25 (0, 0))
  old : Below s w W
section
variable {s : Nat} {w W W' : World} {g : Nat} {r : Value}
theorem ST.below (h : ST s w g r W) (hs : s ≤ W.heap.size) (t : Below W.heap.size W W') : ST s w g r W' := ⟨h.b.below t, h.r.below t, (t.block _ (lt_of_block h.blk)).trans h.blk, h.old.trans (t.mono hs)⟩
theorem ST.c4 (h : ST s w g r W) : W.cell? ⟨g, 0, none⟩ = some (.int .u8 0) ∧ W.cell? ⟨g, 1, none⟩ = some (.int .u8 0) ∧ W.cell? ⟨g, 2, none⟩ = some (.int .u8 2) ∧ W.cell? ⟨g, 3, none⟩ = some (.int .u16 7) :=
  ⟨by simp [World.cell?, h.blk], by simp [World.cell?, h.blk], by simp [World.cell?, h.blk], by simp [World.cell?, h.blk]⟩
theorem ST.lt (h : ST s w g r W) : s ≤ W.heap.size := by
  obtain ⟨g', cap, cur, e, h1, h2, _⟩ := h.b.2.resolve_left (fun h => by cases h.1)
  have := lt_of_block h2
  omega
end
structure QS (s : Nat) (w : World) (g : Nat) (r a n : Value) (W : World) : Prop where
  st : ST s w g r W
  a : OwnBytes s W a [2, 0, 0, 0, 7, 0]
  n : OwnBytes s W n [2, 0, 1, 0, 7, 0]
section
variable {s : Nat} {w W W' : World} {g : Nat} {r a n : Value}
theorem QS.below (h : QS s w g r a n W) (t : Below W.heap.size W W') : QS s w g r a n W' := ⟨h.st.below h.st.lt t, h.a.below t, h.n.below t⟩
theorem QS.sl (h : QS s w g r a n W) : W.cell? ⟨g, 0, none⟩ = some (.int .u8 0) ∧ W.cell? ⟨g, 1, none⟩ = some (.int .u8 0) ∧ W.cell? ⟨g, 2, none⟩ = some (.int .u8 2) ∧ W.cell? ⟨g, 3, none⟩ = some (.int .u16 7) ∧ (convert 22 9 r).run Try.prog W = .ok (.string ⟨#[241]⟩) W ∧ (convert 22 9 a).run Try.prog W = .ok (.string ⟨#[2, 0, 0, 0, 7, 0]⟩) W ∧ (convert 22 9 n).run Try.prog W = .ok (.string ⟨#[2, 0, 1, 0, 7, 0]⟩) W ∧ (convert 22 9 (.slice (some ⟨s, 0, none⟩) 6 6)).run Try.prog W = .ok (.string ⟨#[0, 0, 2, 0, 7, 241]⟩) W ∧ QS s w g r a n W := by
  obtain ⟨c0, c1, c2, c3⟩ := h.st.c4
  exact ⟨c0, c1, c2, c3, own_string h.st.r #[241] (by with_unfolding_all rfl), own_string h.a #[2, 0, 0, 0, 7, 0] (by with_unfolding_all rfl), own_string h.n #[2, 0, 1, 0, 7, 0] (by with_unfolding_all rfl), own_string h.st.b #[0, 0, 2, 0, 7, 241] (by with_unfolding_all rfl), h⟩
end
set_option maxRecDepth 100000 in
set_option maxHeartbeats 4000000 in
theorem head_alive (w : World) : Calls Try.prog 15 #[] w fun e w' => e = .returned (.bool true) ∧ Below w.heap.size w w' := by
  have hz := (zero_of_info info_hd).1
  have hzc := (zero_of_info info_cnt).1
  obtain ⟨s, hs⟩ : ∃ s, s = w.heap.size := ⟨_, rfl⟩
  have HS := Lib.hid hs.symm
  have hb1 := own_lit (s := s) w (by omega) #[.int .u8 0, .int .u8 0, .int .u8 2, .int .u8 0, .int .u8 7, .int .u8 241] exB (by with_unfolding_all rfl) (by simp [exB, maxLen]) 6 rfl
  have ho1 := below_alloc w (.cells #[.int .u8 0, .int .u8 0, .int .u8 2, .int .u8 0, .int .u8 7, .int .u8 241] 5)
  obtain ⟨W1, hW1⟩ : ∃ W1, W1 = w.alloc (.cells #[.int .u8 0, .int .u8 0, .int .u8 2, .int .u8 0, .int .u8 7, .int .u8 241] 5) := ⟨_, rfl⟩
  rw [← hW1] at hb1 ho1
  rw [← hs] at hb1 ho1
  have HB1 := Lib.hid hb1
  have HO1 := Lib.hid ho1
  have HW1 := Lib.hid hW1.symm
  rw [← hs]
  clear hb1 ho1 hW1 hs
  go_enter Try.func15, Try.ntmps15
  go_upto_region 2 with fail
  rw [HW1.out, HS.out]
  go_wp2_with fail
  refine (call_parse_ex _ W1 HB1.out.cut).mono ?_
  rintro e W2 ⟨r, rfl, hr, hb2⟩
  have hsz1 : s ≤ W1.heap.size := by have := HO1.out.size; have := HS.out; omega
  have hst : ST s w W2.heap.size r (W2.alloc (.cells #[.int .u8 0, .int .u8 0, .int .u8 2, .int .u16 7] 25)) := by
    have b3 := hb2.trans ((below_alloc W2 (.cells #[.int .u8 0, .int .u8 0, .int .u8 2, .int .u16 7] 25)).mono hb2.size)
    exact ⟨HB1.out.below b3, (hr.below (below_alloc W2 _)).lower hsz1, heap_alloc_new W2 _, HO1.out.trans (b3.mono hsz1)⟩
  obtain ⟨W3, hW3⟩ : ∃ W3, W3 = W2.alloc (.cells #[.int .u8 0, .int .u8 0, .int .u8 2, .int .u16 7] 25) := ⟨_, rfl⟩
  rw [← hW3] at hst
  have HW3 := Lib.hid hW3.symm
  obtain ⟨g, hg⟩ : ∃ g, g = W2.heap.size := ⟨_, rfl⟩
  rw [← hg] at hst
  have HG := Lib.hid hg.symm
  have HST := Lib.hid hst
  clear hr hb2 hW3 hg hsz1
  obtain ⟨c0, c1, c2, c3⟩ := hst.c4
  clear hst
  go_upto_region 3 with fail
  rw [HW3.out, HG.out]
  go_wp2_with fail
  refine (call_ans0 W3).mono ?_
  rintro e W4 ⟨a, rfl, ha, hb4⟩
  have HST4 := Lib.hid (HST.out.below HST.out.lt hb4)
  have HA4 := Lib.hid (ha.lower HST.out.lt)
  clear c0 c1 c2 c3 ha hb4
  obtain ⟨c0, c1, c2, c3⟩ := HST4.out.c4
  go_wp2_with fail
  refine (call_ans30 W4).mono ?_
  rintro e W5 ⟨n, rfl, hn, hb5⟩
  have HST5 := Lib.hid (HST4.out.below HST4.out.lt hb5)
  have HA5 := Lib.hid (HA4.out.below hb5)
  have HN5 := Lib.hid (hn.lower HST4.out.lt)
  clear c0 c1 c2 c3 hn hb5
  go_wp2_with fail
  refine (call_ans31 W5).mono ?_
  rintro e W6 ⟨rfl, hb6⟩
  have HST6 := Lib.hid (HST5.out.below HST5.out.lt hb6)
  have HA6 := Lib.hid (HA5.out.below hb6)
  have HN6 := Lib.hid (HN5.out.below hb6)
  clear hb6
  go_wp2_with fail
  refine (short_ex HST6.out.b).mono ?_
  rintro e W7 ⟨rfl, hb7⟩
  have hb8 := hb7.trans ((below_alloc W7 (.cells #[.int .u8 0, .int .u8 0, .int .u8 0, .int .u16 0] 25)).mono hb7.size)
  obtain ⟨W8, hW8⟩ : ∃ W8, W8 = W7.alloc (.cells #[.int .u8 0, .int .u8 0, .int .u8 0, .int .u16 0] 25) := ⟨_, rfl⟩
  rw [← hW8] at hb8
  have HW8 := Lib.hid hW8.symm
  have HST8 := Lib.hid (HST6.out.below HST6.out.lt hb8)
  have HA8 := Lib.hid (HA6.out.below hb8)
  have HN8 := Lib.hid (HN6.out.below hb8)
  clear hb7 hb8 hW8
  go_upto_region 7 with fail
  rw [HW8.out]
  go_wp2_with fail
  refine (call_parse_n _ W8 HN8.out.cut).mono ?_
  rintro e W9 ⟨q, rfl, hq, hb9⟩
  have hb10 := hb9.trans ((below_alloc W9 (.cells #[.int .u8 2, .int .u8 0, .int .u8 1, .int .u16 7] 25)).mono hb9.size)
  have hq10 := (hq.below (below_alloc W9 (.cells #[.int .u8 2, .int .u8 0, .int .u8 1, .int .u16 7] 25))).lower HST8.out.lt
  obtain ⟨W10, hW10⟩ : ∃ W10, W10 = W9.alloc (.cells #[.int .u8 2, .int .u8 0, .int .u8 1, .int .u16 7] 25) := ⟨_, rfl⟩
  have hblk : W10.heap[W9.heap.size]? = some (.cells #[.int .u8 2, .int .u8 0, .int .u8 1, .int .u16 7] 25 (0, 0)) := by rw [hW10]; exact heap_alloc_new W9 _
  rw [← hW10] at hb10 hq10
  have HW10 := Lib.hid hW10.symm
  have HST10 := Lib.hid (HST8.out.below HST8.out.lt hb10)
  have HA10 := Lib.hid (HA8.out.below hb10)
  have HN10 := Lib.hid (HN8.out.below hb10)
  have HQ10 := Lib.hid hq10
  have d0 : W10.cell? ⟨W9.heap.size, 0, none⟩ = some (.int .u8 2) := by simp [World.cell?, hblk]
  have d1 : W10.cell? ⟨W9.heap.size, 1, none⟩ = some (.int .u8 0) := by simp [World.cell?, hblk]
  have d2 : W10.cell? ⟨W9.heap.size, 2, none⟩ = some (.int .u8 1) := by simp [World.cell?, hblk]
  have d3 : W10.cell? ⟨W9.heap.size, 3, none⟩ = some (.int .u16 7) := by simp [World.cell?, hblk]
  clear hq hb9 hb10 hq10 hW10 hblk
  go_upto_region 8 with fail
  rw [HW10.out]
  go_wp2_with fail
  refine (sense_yes exN q 0 W10 rfl (.inr rfl) HQ10.out.row).mono ?_
  rintro e W11 ⟨rfl, hb11⟩
  have HDF : Hid (decide (exN.rs = 0) = false) := Lib.hid (by decide)
  rw [HDF.out]
  have HST11 := Lib.hid (HST10.out.below HST10.out.lt hb11)
  have HA11 := Lib.hid (HA10.out.below hb11)
  have HN11 := Lib.hid (HN10.out.below hb11)
  clear hb11 d0 d1 d2 d3
  have hcn := cnt_new W11
  have hb12 := below_alloc W11 (.cells zcnt 50)
  obtain ⟨W12, hW12⟩ : ∃ W12, W12 = W11.alloc (.cells zcnt 50) := ⟨_, rfl⟩
  rw [← hW12] at hcn hb12
  obtain ⟨cb, hcb⟩ : ∃ cb, cb = W11.heap.size := ⟨_, rfl⟩
  rw [← hcb] at hcn
  have HCB := Lib.hid hcb.symm
  have HW12 := Lib.hid hW12.symm
  have HC12 := Lib.hid hcn
  have HB12 := Lib.hid hb12
  have HCBL : Hid (W11.heap.size ≤ cb) := Lib.hid (by rw [HCB.out]; exact Nat.le_refl _)
  clear hW12 hcb hcn hb12
  go_upto_region 10 with fail
  rw [HW12.out, HCB.out]
  go_wp2_with fail
  refine (next_any HC12.out (by omega) (by omega)).mono ?_
  rintro e W13 ⟨rfl, hc13, ht13⟩
  have HC13 : Hid (CntAt W13 cb 1 [0]) := Lib.hid hc13
  have HB13 := Lib.hid (HB12.out.trans (ht13.at_below HB12.out.size HCBL.out))
  clear hc13 ht13
  go_wp2_with fail
  refine (next_any HC13.out (by omega) (by omega)).mono ?_
  rintro e W14 ⟨rfl, hc14, ht14⟩
  have HC14 : Hid (CntAt W14.drew cb 2 [0, 1]) := Lib.hid (CntAt.kept hc14 rfl)
  have hb14 := HB13.out.trans (ht14.at_below HB13.out.size HCBL.out)
  have HB14 := Lib.hid hb14.drew
  have HQ11 : Hid (QS s w g r a n W11) := Lib.hid ⟨HST11.out, HA11.out, HN11.out⟩
  have HQ14 : Hid (QS s w g r a n W14.drew) := Lib.hid (HQ11.out.below hb14.drew)
  have HCB31 : Hid (codeB 31 = 2) := Lib.hid (by decide)
  clear hc14 ht14 hb14
  go_upto_region 11 with fail
  change Code.wp _ (Code.region 11 al11 true) _ _ _
  refine wp_region_held_drew (S := (fun W => W.cell? ⟨g, 0, none⟩ = some (.int .u8 0) ∧ W.cell? ⟨g, 1, none⟩ = some (.int .u8 0) ∧ W.cell? ⟨g, 2, none⟩ = some (.int .u8 2) ∧ W.cell? ⟨g, 3, none⟩ = some (.int .u16 7) ∧ (convert 22 9 r).run Try.prog W = .ok (.string ⟨#[241]⟩) W ∧ (convert 22 9 a).run Try.prog W = .ok (.string ⟨#[2, 0, 0, 0, 7, 0]⟩) W ∧ (convert 22 9 n).run Try.prog W = .ok (.string ⟨#[2, 0, 1, 0, 7, 0]⟩) W ∧ (convert 22 9 (.slice (some ⟨s, 0, none⟩) 6 6)).run Try.prog W = .ok (.string ⟨#[0, 0, 2, 0, 7, 241]⟩) W ∧ QS s w g r a n W)) (by kernel_rfl) (HQ14.out.sl) (fun hHeld => ?_)
  change wpAnyH _ .any al11 _ _ 96 al11_l0 _ _
  refine wpAnyH_take (i := 0) (oi := { dst := some 67, op := Op.move (Operand.tmp 4), type := 26, pos := "law.go:28", after := #[], guard := none }) (v := ?_) (listed := al11_l0) al11_g0 al11_nosel al11_f0 al11_r0 (fun _ _ _ h => h) (Or.inl ⟨by rfl, ?_⟩) (by assumption) ?_
  rotate_left
  focus (intro w hSw; (try dsimp only at hSw); go_simp; try (with_reducible rfl))
  try simp only [Act.put, List.setIfInBounds_toArray, List.set_cons_zero, List.set_cons_succ]
  refine wpAnyH_take (i := 1) (oi := { dst := some 68, op := Op.binOp BinOp.eql 26 (Operand.tmp 67) (Operand.const (Value.int IntKind.i64 0)) 26, type := 4, pos := "law.go:28", after := #[{ on := 0, ground := Ground.data }], guard := none }) (v := ?_) (listed := al11_l1) al11_g1 al11_nosel al11_f1 al11_r1 (fun _ _ _ h => h) (Or.inl ⟨by rfl, ?_⟩) (by assumption) ?_
  rotate_left
  focus (intro w hSw; (try dsimp only at hSw); go_simp; try (with_reducible rfl))
  try simp only [Act.put, List.setIfInBounds_toArray, List.set_cons_zero, List.set_cons_succ]
  refine wpAnyH_take (i := 2) (oi := { dst := some 69, op := Op.move (Operand.tmp 68), type := 4, pos := "law.go:28", after := #[{ on := 1, ground := Ground.data }], guard := none }) (v := ?_) (listed := al11_l2) al11_g2 al11_nosel al11_f2 al11_r2 (fun _ _ _ h => h) (Or.inl ⟨by rfl, ?_⟩) (by assumption) ?_
  rotate_left
  focus (intro w hSw; (try dsimp only at hSw); go_simp; try (with_reducible rfl))
  try simp only [Act.put, List.setIfInBounds_toArray, List.set_cons_zero, List.set_cons_succ]
  refine wpAnyH_take (i := 3) (oi := { dst := some 70, op := Op.fieldAddr 25 (Operand.tmp 2) 0, type := 0, pos := "law.go:28", after := #[{ on := 2, ground := Ground.guard }], guard := some (2, true) }) (v := ?_) (listed := al11_l3) al11_g3 al11_nosel al11_f3 al11_r3 (fun _ _ _ h => h) (Or.inl ⟨by rfl, ?_⟩) (by assumption) ?_
  rotate_left
  focus (intro w hSw; (try dsimp only at hSw); go_simp; try (with_reducible rfl))
  try simp only [Act.put, List.setIfInBounds_toArray, List.set_cons_zero, List.set_cons_succ]
  refine wpAnyH_take (i := 4) (oi := { dst := some 71, op := Op.load 5 (Operand.tmp 70), type := 5, pos := "law.go:28", after := #[{ on := 3, ground := Ground.data }, { on := 2, ground := Ground.guard }], guard := some (2, true) }) (v := ?_) (listed := al11_l4) al11_g4 al11_nosel al11_f4 al11_r4 (fun _ _ _ h => h) (Or.inl ⟨by rfl, ?_⟩) (by assumption) ?_
  rotate_left
  focus (intro w hSw; (try dsimp only at hSw); go_simp; try (with_reducible rfl))
  try simp only [Act.put, List.setIfInBounds_toArray, List.set_cons_zero, List.set_cons_succ]
  refine wpAnyH_take (i := 5) (oi := { dst := some 72, op := Op.binOp BinOp.eql 5 (Operand.tmp 71) (Operand.const (Value.int IntKind.u8 0)) 5, type := 4, pos := "law.go:28", after := #[{ on := 4, ground := Ground.data }, { on := 2, ground := Ground.guard }], guard := some (2, true) }) (v := ?_) (listed := al11_l5) al11_g5 al11_nosel al11_f5 al11_r5 (fun _ _ _ h => h) (Or.inl ⟨by rfl, ?_⟩) (by assumption) ?_
  rotate_left
  focus (intro w hSw; (try dsimp only at hSw); go_simp; try (with_reducible rfl))
  try simp only [Act.put, List.setIfInBounds_toArray, List.set_cons_zero, List.set_cons_succ]
  refine wpAnyH_take (i := 6) (oi := { dst := some 73, op := Op.pick (Operand.tmp 69) (Operand.tmp 72) (Operand.const (Value.bool false)), type := 4, pos := "law.go:28", after := #[{ on := 2, ground := Ground.data }, { on := 5, ground := Ground.data }], guard := none }) (v := ?_) (listed := al11_l6) al11_g6 al11_nosel al11_f6 al11_r6 (fun _ _ _ h => h) (Or.inl ⟨by rfl, ?_⟩) (by assumption) ?_
  rotate_left
  focus (intro w hSw; (try dsimp only at hSw); go_simp; try (with_reducible rfl))
  try simp only [Act.put, List.setIfInBounds_toArray, List.set_cons_zero, List.set_cons_succ]
  refine wpAnyH_take (i := 7) (oi := { dst := some 74, op := Op.move (Operand.tmp 73), type := 4, pos := "law.go:28", after := #[{ on := 6, ground := Ground.data }, { on := 2, ground := Ground.chain }], guard := none }) (v := ?_) (listed := al11_l7) al11_g7 al11_nosel al11_f7 al11_r7 (fun _ _ _ h => h) (Or.inl ⟨by rfl, ?_⟩) (by assumption) ?_
  rotate_left
  focus (intro w hSw; (try dsimp only at hSw); go_simp; try (with_reducible rfl))
  try simp only [Act.put, List.setIfInBounds_toArray, List.set_cons_zero, List.set_cons_succ]
  refine wpAnyH_take (i := 8) (oi := { dst := some 75, op := Op.fieldAddr 25 (Operand.tmp 2) 2, type := 0, pos := "law.go:28", after := #[{ on := 7, ground := Ground.guard }], guard := some (7, true) }) (v := ?_) (listed := al11_l8) al11_g8 al11_nosel al11_f8 al11_r8 (fun _ _ _ h => h) (Or.inl ⟨by rfl, ?_⟩) (by assumption) ?_
  rotate_left
  focus (intro w hSw; (try dsimp only at hSw); go_simp; try (with_reducible rfl))
  try simp only [Act.put, List.setIfInBounds_toArray, List.set_cons_zero, List.set_cons_succ]
  refine wpAnyH_take (i := 9) (oi := { dst := some 76, op := Op.load 5 (Operand.tmp 75), type := 5, pos := "law.go:28", after := #[{ on := 8, ground := Ground.data }, { on := 7, ground := Ground.guard }], guard := some (7, true) }) (v := ?_) (listed := al11_l9) al11_g9 al11_nosel al11_f9 al11_r9 (fun _ _ _ h => h) (Or.inl ⟨by rfl, ?_⟩) (by assumption) ?_
  rotate_left
  focus (intro w hSw; (try dsimp only at hSw); go_simp; try (with_reducible rfl))
  try simp only [Act.put, List.setIfInBounds_toArray, List.set_cons_zero, List.set_cons_succ]
  refine wpAnyH_take (i := 10) (oi := { dst := some 77, op := Op.binOp BinOp.eql 5 (Operand.tmp 76) (Operand.const (Value.int IntKind.u8 2)) 5, type := 4, pos := "law.go:28", after := #[{ on := 9, ground := Ground.data }, { on := 7, ground := Ground.guard }], guard := some (7, true) }) (v := ?_) (listed := al11_l10) al11_g10 al11_nosel al11_f10 al11_r10 (fun _ _ _ h => h) (Or.inl ⟨by rfl, ?_⟩) (by assumption) ?_
  rotate_left
  focus (intro w hSw; (try dsimp only at hSw); go_simp; try (with_reducible rfl))
  try simp only [Act.put, List.setIfInBounds_toArray, List.set_cons_zero, List.set_cons_succ]
  refine wpAnyH_take (i := 11) (oi := { dst := some 78, op := Op.pick (Operand.tmp 74) (Operand.tmp 77) (Operand.const (Value.bool false)), type := 4, pos := "law.go:28", after := #[{ on := 7, ground := Ground.data }, { on := 10, ground := Ground.data }], guard := none }) (v := ?_) (listed := al11_l11) al11_g11 al11_nosel al11_f11 al11_r11 (fun _ _ _ h => h) (Or.inl ⟨by rfl, ?_⟩) (by assumption) ?_
  rotate_left
  focus (intro w hSw; (try dsimp only at hSw); go_simp; try (with_reducible rfl))
  try simp only [Act.put, List.setIfInBounds_toArray, List.set_cons_zero, List.set_cons_succ]
  refine wpAnyH_take (i := 12) (oi := { dst := some 79, op := Op.move (Operand.tmp 78), type := 4, pos := "law.go:28", after := #[{ on := 11, ground := Ground.data }, { on := 7, ground := Ground.chain }], guard := none }) (v := ?_) (listed := al11_l12) al11_g12 al11_nosel al11_f12 al11_r12 (fun _ _ _ h => h) (Or.inl ⟨by rfl, ?_⟩) (by assumption) ?_
  rotate_left
  focus (intro w hSw; (try dsimp only at hSw); go_simp; try (with_reducible rfl))
  try simp only [Act.put, List.setIfInBounds_toArray, List.set_cons_zero, List.set_cons_succ]
  refine wpAnyH_take (i := 13) (oi := { dst := some 80, op := Op.fieldAddr 25 (Operand.tmp 2) 3, type := 0, pos := "law.go:28", after := #[{ on := 12, ground := Ground.guard }], guard := some (12, true) }) (v := ?_) (listed := al11_l13) al11_g13 al11_nosel al11_f13 al11_r13 (fun _ _ _ h => h) (Or.inl ⟨by rfl, ?_⟩) (by assumption) ?_
  rotate_left
  focus (intro w hSw; (try dsimp only at hSw); go_simp; try (with_reducible rfl))
  try simp only [Act.put, List.setIfInBounds_toArray, List.set_cons_zero, List.set_cons_succ]
  refine wpAnyH_take (i := 14) (oi := { dst := some 81, op := Op.load 23 (Operand.tmp 80), type := 23, pos := "law.go:28", after := #[{ on := 13, ground := Ground.data }, { on := 12, ground := Ground.guard }], guard := some (12, true) }) (v := ?_) (listed := al11_l14) al11_g14 al11_nosel al11_f14 al11_r14 (fun _ _ _ h => h) (Or.inl ⟨by rfl, ?_⟩) (by assumption) ?_
  rotate_left
  focus (intro w hSw; (try dsimp only at hSw); go_simp; try (with_reducible rfl))
  try simp only [Act.put, List.setIfInBounds_toArray, List.set_cons_zero, List.set_cons_succ]
  refine wpAnyH_take (i := 15) (oi := { dst := some 82, op := Op.binOp BinOp.eql 23 (Operand.tmp 81) (Operand.const (Value.int IntKind.u16 7)) 23, type := 4, pos := "law.go:28", after := #[{ on := 14, ground := Ground.data }, { on := 12, ground := Ground.guard }], guard := some (12, true) }) (v := ?_) (listed := al11_l15) al11_g15 al11_nosel al11_f15 al11_r15 (fun _ _ _ h => h) (Or.inl ⟨by rfl, ?_⟩) (by assumption) ?_
  rotate_left
  focus (intro w hSw; (try dsimp only at hSw); go_simp; try (with_reducible rfl))
  try simp only [Act.put, List.setIfInBounds_toArray, List.set_cons_zero, List.set_cons_succ]
  refine wpAnyH_take (i := 16) (oi := { dst := some 83, op := Op.pick (Operand.tmp 79) (Operand.tmp 82) (Operand.const (Value.bool false)), type := 4, pos := "law.go:28", after := #[{ on := 12, ground := Ground.data }, { on := 15, ground := Ground.data }], guard := none }) (v := ?_) (listed := al11_l16) al11_g16 al11_nosel al11_f16 al11_r16 (fun _ _ _ h => h) (Or.inl ⟨by rfl, ?_⟩) (by assumption) ?_
  rotate_left
  focus (intro w hSw; (try dsimp only at hSw); go_simp; try (with_reducible rfl))
  try simp only [Act.put, List.setIfInBounds_toArray, List.set_cons_zero, List.set_cons_succ]
  refine wpAnyH_take (i := 17) (oi := { dst := some 84, op := Op.move (Operand.tmp 83), type := 4, pos := "law.go:28", after := #[{ on := 16, ground := Ground.data }, { on := 12, ground := Ground.chain }], guard := none }) (v := ?_) (listed := al11_l17) al11_g17 al11_nosel al11_f17 al11_r17 (fun _ _ _ h => h) (Or.inl ⟨by rfl, ?_⟩) (by assumption) ?_
  rotate_left
  focus (intro w hSw; (try dsimp only at hSw); go_simp; try (with_reducible rfl))
  try simp only [Act.put, List.setIfInBounds_toArray, List.set_cons_zero, List.set_cons_succ]
  refine wpAnyH_take (i := 18) (oi := { dst := some 85, op := Op.move (Operand.tmp 3), type := 22, pos := "law.go:28", after := #[{ on := 17, ground := Ground.guard }], guard := some (17, true) }) (v := ?_) (listed := al11_l18) al11_g18 al11_nosel al11_f18 al11_r18 (fun _ _ _ h => h) (Or.inl ⟨by rfl, ?_⟩) (by assumption) ?_
  rotate_left
  focus (intro w hSw; (try dsimp only at hSw); go_simp; try (with_reducible rfl))
  try simp only [Act.put, List.setIfInBounds_toArray, List.set_cons_zero, List.set_cons_succ]
  refine wpAnyH_take (i := 19) (oi := { dst := some 86, op := Op.convert 22 9 (Operand.tmp 85), type := 9, pos := "law.go:28", after := #[{ on := 18, ground := Ground.data }, { on := 17, ground := Ground.guard }], guard := some (17, true) }) (v := ?_) (listed := al11_l19) al11_g19 al11_nosel al11_f19 al11_r19 (fun _ _ _ h => h) (Or.inl ⟨by rfl, ?_⟩) (by assumption) ?_
  rotate_left
  focus (intro w hSw; (try dsimp only at hSw); go_simp; try (with_reducible rfl))
  try simp only [Act.put, List.setIfInBounds_toArray, List.set_cons_zero, List.set_cons_succ]
  refine wpAnyH_take (i := 20) (oi := { dst := some 87, op := Op.binOp BinOp.eql 9 (Operand.tmp 86) (Operand.const (Value.string { data := #[241] })) 9, type := 4, pos := "law.go:28", after := #[{ on := 19, ground := Ground.data }, { on := 17, ground := Ground.guard }], guard := some (17, true) }) (v := ?_) (listed := al11_l20) al11_g20 al11_nosel al11_f20 al11_r20 (fun _ _ _ h => h) (Or.inl ⟨by rfl, ?_⟩) (by assumption) ?_
  rotate_left
  focus (intro w hSw; (try dsimp only at hSw); go_simp; try (with_reducible rfl))
  try simp only [Act.put, List.setIfInBounds_toArray, List.set_cons_zero, List.set_cons_succ]
  refine wpAnyH_take (i := 21) (oi := { dst := some 88, op := Op.pick (Operand.tmp 84) (Operand.tmp 87) (Operand.const (Value.bool false)), type := 4, pos := "law.go:28", after := #[{ on := 17, ground := Ground.data }, { on := 20, ground := Ground.data }], guard := none }) (v := ?_) (listed := al11_l21) al11_g21 al11_nosel al11_f21 al11_r21 (fun _ _ _ h => h) (Or.inl ⟨by rfl, ?_⟩) (by assumption) ?_
  rotate_left
  focus (intro w hSw; (try dsimp only at hSw); go_simp; try (with_reducible rfl))
  try simp only [Act.put, List.setIfInBounds_toArray, List.set_cons_zero, List.set_cons_succ]
  refine wpAnyH_take (i := 22) (oi := { dst := some 89, op := Op.move (Operand.tmp 88), type := 4, pos := "law.go:28", after := #[{ on := 21, ground := Ground.data }, { on := 17, ground := Ground.chain }], guard := none }) (v := ?_) (listed := al11_l22) al11_g22 al11_nosel al11_f22 al11_r22 (fun _ _ _ h => h) (Or.inl ⟨by rfl, ?_⟩) (by assumption) ?_
  rotate_left
  focus (intro w hSw; (try dsimp only at hSw); go_simp; try (with_reducible rfl))
  try simp only [Act.put, List.setIfInBounds_toArray, List.set_cons_zero, List.set_cons_succ]
  refine wpAnyH_take (i := 23) (oi := { dst := some 90, op := Op.move (Operand.tmp 5), type := 22, pos := "law.go:28", after := #[{ on := 22, ground := Ground.guard }], guard := some (22, true) }) (v := ?_) (listed := al11_l23) al11_g23 al11_nosel al11_f23 al11_r23 (fun _ _ _ h => h) (Or.inl ⟨by rfl, ?_⟩) (by assumption) ?_
  rotate_left
  focus (intro w hSw; (try dsimp only at hSw); go_simp; try (with_reducible rfl))
  try simp only [Act.put, List.setIfInBounds_toArray, List.set_cons_zero, List.set_cons_succ]
  refine wpAnyH_take (i := 24) (oi := { dst := some 91, op := Op.convert 22 9 (Operand.tmp 90), type := 9, pos := "law.go:28", after := #[{ on := 23, ground := Ground.data }, { on := 22, ground := Ground.guard }], guard := some (22, true) }) (v := ?_) (listed := al11_l24) al11_g24 al11_nosel al11_f24 al11_r24 (fun _ _ _ h => h) (Or.inl ⟨by rfl, ?_⟩) (by assumption) ?_
  rotate_left
  focus (intro w hSw; (try dsimp only at hSw); go_simp; try (with_reducible rfl))
  try simp only [Act.put, List.setIfInBounds_toArray, List.set_cons_zero, List.set_cons_succ]
  refine wpAnyH_take (i := 25) (oi := { dst := some 92, op := Op.binOp BinOp.eql 9 (Operand.tmp 91) (Operand.const (Value.string { data := #[2, 0, 0, 0, 7, 0] })) 9, type := 4, pos := "law.go:28", after := #[{ on := 24, ground := Ground.data }, { on := 22, ground := Ground.guard }], guard := some (22, true) }) (v := ?_) (listed := al11_l25) al11_g25 al11_nosel al11_f25 al11_r25 (fun _ _ _ h => h) (Or.inl ⟨by rfl, ?_⟩) (by assumption) ?_
  rotate_left
  focus (intro w hSw; (try dsimp only at hSw); go_simp; try (with_reducible rfl))
  try simp only [Act.put, List.setIfInBounds_toArray, List.set_cons_zero, List.set_cons_succ]
  refine wpAnyH_take (i := 26) (oi := { dst := some 93, op := Op.pick (Operand.tmp 89) (Operand.tmp 92) (Operand.const (Value.bool false)), type := 4, pos := "law.go:28", after := #[{ on := 22, ground := Ground.data }, { on := 25, ground := Ground.data }], guard := none }) (v := ?_) (listed := al11_l26) al11_g26 al11_nosel al11_f26 al11_r26 (fun _ _ _ h => h) (Or.inl ⟨by rfl, ?_⟩) (by assumption) ?_
  rotate_left
  focus (intro w hSw; (try dsimp only at hSw); go_simp; try (with_reducible rfl))
  try simp only [Act.put, List.setIfInBounds_toArray, List.set_cons_zero, List.set_cons_succ]
  refine wpAnyH_take (i := 27) (oi := { dst := some 94, op := Op.move (Operand.tmp 93), type := 4, pos := "law.go:28", after := #[{ on := 26, ground := Ground.data }, { on := 22, ground := Ground.chain }], guard := none }) (v := ?_) (listed := al11_l27) al11_g27 al11_nosel al11_f27 al11_r27 (fun _ _ _ h => h) (Or.inl ⟨by rfl, ?_⟩) (by assumption) ?_
  rotate_left
  focus (intro w hSw; (try dsimp only at hSw); go_simp; try (with_reducible rfl))
  try simp only [Act.put, List.setIfInBounds_toArray, List.set_cons_zero, List.set_cons_succ]
  refine wpAnyH_take (i := 28) (oi := { dst := some 95, op := Op.move (Operand.tmp 6), type := 4, pos := "law.go:28", after := #[{ on := 27, ground := Ground.guard }], guard := some (27, true) }) (v := ?_) (listed := al11_l28) al11_g28 al11_nosel al11_f28 al11_r28 (fun _ _ _ h => h) (Or.inl ⟨by rfl, ?_⟩) (by assumption) ?_
  rotate_left
  focus (intro w hSw; (try dsimp only at hSw); go_simp; try (with_reducible rfl))
  try simp only [Act.put, List.setIfInBounds_toArray, List.set_cons_zero, List.set_cons_succ]
  refine wpAnyH_take (i := 29) (oi := { dst := some 96, op := Op.pick (Operand.tmp 94) (Operand.tmp 95) (Operand.const (Value.bool false)), type := 4, pos := "law.go:28", after := #[{ on := 27, ground := Ground.data }, { on := 28, ground := Ground.data }], guard := none }) (v := ?_) (listed := al11_l29) al11_g29 al11_nosel al11_f29 al11_r29 (fun _ _ _ h => h) (Or.inl ⟨by rfl, ?_⟩) (by assumption) ?_
  rotate_left
  focus (intro w hSw; (try dsimp only at hSw); go_simp; try (with_reducible rfl))
  try simp only [Act.put, List.setIfInBounds_toArray, List.set_cons_zero, List.set_cons_succ]
  refine wpAnyH_take (i := 30) (oi := { dst := some 97, op := Op.move (Operand.tmp 96), type := 4, pos := "law.go:28", after := #[{ on := 29, ground := Ground.data }, { on := 27, ground := Ground.chain }], guard := none }) (v := ?_) (listed := al11_l30) al11_g30 al11_nosel al11_f30 al11_r30 (fun _ _ _ h => h) (Or.inl ⟨by rfl, ?_⟩) (by assumption) ?_
  rotate_left
  focus (intro w hSw; (try dsimp only at hSw); go_simp; try (with_reducible rfl))
  try simp only [Act.put, List.setIfInBounds_toArray, List.set_cons_zero, List.set_cons_succ]
  refine wpAnyH_take (i := 31) (oi := { dst := some 98, op := Op.move (Operand.tmp 7), type := 22, pos := "law.go:28", after := #[{ on := 30, ground := Ground.guard }], guard := some (30, true) }) (v := ?_) (listed := al11_l31) al11_g31 al11_nosel al11_f31 al11_r31 (fun _ _ _ h => h) (Or.inl ⟨by rfl, ?_⟩) (by assumption) ?_
  rotate_left
  focus (intro w hSw; (try dsimp only at hSw); go_simp; try (with_reducible rfl))
  try simp only [Act.put, List.setIfInBounds_toArray, List.set_cons_zero, List.set_cons_succ]
  refine wpAnyH_take (i := 32) (oi := { dst := some 99, op := Op.convert 22 9 (Operand.tmp 98), type := 9, pos := "law.go:28", after := #[{ on := 31, ground := Ground.data }, { on := 30, ground := Ground.guard }], guard := some (30, true) }) (v := ?_) (listed := al11_l32) al11_g32 al11_nosel al11_f32 al11_r32 (fun _ _ _ h => h) (Or.inl ⟨by rfl, ?_⟩) (by assumption) ?_
  rotate_left
  focus (intro w hSw; (try dsimp only at hSw); go_simp; try (with_reducible rfl))
  try simp only [Act.put, List.setIfInBounds_toArray, List.set_cons_zero, List.set_cons_succ]
  refine wpAnyH_take (i := 33) (oi := { dst := some 100, op := Op.binOp BinOp.eql 9 (Operand.tmp 99) (Operand.const (Value.string { data := #[2, 0, 1, 0, 7, 0] })) 9, type := 4, pos := "law.go:28", after := #[{ on := 32, ground := Ground.data }, { on := 30, ground := Ground.guard }], guard := some (30, true) }) (v := ?_) (listed := al11_l33) al11_g33 al11_nosel al11_f33 al11_r33 (fun _ _ _ h => h) (Or.inl ⟨by rfl, ?_⟩) (by assumption) ?_
  rotate_left
  focus (intro w hSw; (try dsimp only at hSw); go_simp; try (with_reducible rfl))
  try simp only [Act.put, List.setIfInBounds_toArray, List.set_cons_zero, List.set_cons_succ]
  refine wpAnyH_take (i := 34) (oi := { dst := some 101, op := Op.pick (Operand.tmp 97) (Operand.tmp 100) (Operand.const (Value.bool false)), type := 4, pos := "law.go:28", after := #[{ on := 30, ground := Ground.data }, { on := 33, ground := Ground.data }], guard := none }) (v := ?_) (listed := al11_l34) al11_g34 al11_nosel al11_f34 al11_r34 (fun _ _ _ h => h) (Or.inl ⟨by rfl, ?_⟩) (by assumption) ?_
  rotate_left
  focus (intro w hSw; (try dsimp only at hSw); go_simp; try (with_reducible rfl))
  try simp only [Act.put, List.setIfInBounds_toArray, List.set_cons_zero, List.set_cons_succ]
  refine wpAnyH_take (i := 35) (oi := { dst := some 102, op := Op.move (Operand.tmp 101), type := 4, pos := "law.go:28", after := #[{ on := 34, ground := Ground.data }, { on := 30, ground := Ground.chain }], guard := none }) (v := ?_) (listed := al11_l35) al11_g35 al11_nosel al11_f35 al11_r35 (fun _ _ _ h => h) (Or.inl ⟨by rfl, ?_⟩) (by assumption) ?_
  rotate_left
  focus (intro w hSw; (try dsimp only at hSw); go_simp; try (with_reducible rfl))
  try simp only [Act.put, List.setIfInBounds_toArray, List.set_cons_zero, List.set_cons_succ]
  refine wpAnyH_take (i := 36) (oi := { dst := some 103, op := Op.move (Operand.tmp 8), type := 4, pos := "law.go:28", after := #[{ on := 35, ground := Ground.guard }], guard := some (35, true) }) (v := ?_) (listed := al11_l36) al11_g36 al11_nosel al11_f36 al11_r36 (fun _ _ _ h => h) (Or.inl ⟨by rfl, ?_⟩) (by assumption) ?_
  rotate_left
  focus (intro w hSw; (try dsimp only at hSw); go_simp; try (with_reducible rfl))
  try simp only [Act.put, List.setIfInBounds_toArray, List.set_cons_zero, List.set_cons_succ]
  refine wpAnyH_take (i := 37) (oi := { dst := some 104, op := Op.pick (Operand.tmp 102) (Operand.tmp 103) (Operand.const (Value.bool false)), type := 4, pos := "law.go:28", after := #[{ on := 35, ground := Ground.data }, { on := 36, ground := Ground.data }], guard := none }) (v := ?_) (listed := al11_l37) al11_g37 al11_nosel al11_f37 al11_r37 (fun _ _ _ h => h) (Or.inl ⟨by rfl, ?_⟩) (by assumption) ?_
  rotate_left
  focus (intro w hSw; (try dsimp only at hSw); go_simp; try (with_reducible rfl))
  try simp only [Act.put, List.setIfInBounds_toArray, List.set_cons_zero, List.set_cons_succ]
  refine wpAnyH_take (i := 38) (oi := { dst := some 105, op := Op.move (Operand.tmp 104), type := 4, pos := "law.go:28", after := #[{ on := 37, ground := Ground.data }, { on := 35, ground := Ground.chain }], guard := none }) (v := ?_) (listed := al11_l38) al11_g38 al11_nosel al11_f38 al11_r38 (fun _ _ _ h => h) (Or.inl ⟨by rfl, ?_⟩) (by assumption) ?_
  rotate_left
  focus (intro w hSw; (try dsimp only at hSw); go_simp; try (with_reducible rfl))
  try simp only [Act.put, List.setIfInBounds_toArray, List.set_cons_zero, List.set_cons_succ]
  refine wpAnyH_take (i := 39) (oi := { dst := some 106, op := Op.move (Operand.tmp 10), type := 4, pos := "law.go:28", after := #[{ on := 38, ground := Ground.guard }], guard := some (38, true) }) (v := ?_) (listed := al11_l39) al11_g39 al11_nosel al11_f39 al11_r39 (fun _ _ _ h => h) (Or.inl ⟨by rfl, ?_⟩) (by assumption) ?_
  rotate_left
  focus (intro w hSw; (try dsimp only at hSw); go_simp; try (with_reducible rfl))
  try simp only [Act.put, List.setIfInBounds_toArray, List.set_cons_zero, List.set_cons_succ]
  refine wpAnyH_take (i := 40) (oi := { dst := some 107, op := Op.unOp UnOp.not 4 (Operand.tmp 106), type := 4, pos := "law.go:28", after := #[{ on := 39, ground := Ground.data }, { on := 38, ground := Ground.guard }], guard := some (38, true) }) (v := ?_) (listed := al11_l40) al11_g40 al11_nosel al11_f40 al11_r40 (fun _ _ _ h => h) (Or.inl ⟨by rfl, ?_⟩) (by assumption) ?_
  rotate_left
  focus (intro w hSw; (try dsimp only at hSw); go_simp; try (with_reducible rfl))
  try simp only [Act.put, List.setIfInBounds_toArray, List.set_cons_zero, List.set_cons_succ]
  refine wpAnyH_take (i := 41) (oi := { dst := some 108, op := Op.pick (Operand.tmp 105) (Operand.tmp 107) (Operand.const (Value.bool false)), type := 4, pos := "law.go:28", after := #[{ on := 38, ground := Ground.data }, { on := 40, ground := Ground.data }], guard := none }) (v := ?_) (listed := al11_l41) al11_g41 al11_nosel al11_f41 al11_r41 (fun _ _ _ h => h) (Or.inl ⟨by rfl, ?_⟩) (by assumption) ?_
  rotate_left
  focus (intro w hSw; (try dsimp only at hSw); go_simp; try (with_reducible rfl))
  try simp only [Act.put, List.setIfInBounds_toArray, List.set_cons_zero, List.set_cons_succ]
  refine wpAnyH_take (i := 42) (oi := { dst := some 109, op := Op.move (Operand.tmp 108), type := 4, pos := "law.go:28", after := #[{ on := 41, ground := Ground.data }, { on := 38, ground := Ground.chain }], guard := none }) (v := ?_) (listed := al11_l42) al11_g42 al11_nosel al11_f42 al11_r42 (fun _ _ _ h => h) (Or.inl ⟨by rfl, ?_⟩) (by assumption) ?_
  rotate_left
  focus (intro w hSw; (try dsimp only at hSw); go_simp; try (with_reducible rfl))
  try simp only [Act.put, List.setIfInBounds_toArray, List.set_cons_zero, List.set_cons_succ]
  refine wpAnyH_take (i := 43) (oi := { dst := some 110, op := Op.move (Operand.tmp 13), type := 26, pos := "law.go:28", after := #[{ on := 42, ground := Ground.guard }], guard := some (42, true) }) (v := ?_) (listed := al11_l43) al11_g43 al11_nosel al11_f43 al11_r43 (fun _ _ _ h => h) (Or.inl ⟨by rfl, ?_⟩) (by assumption) ?_
  rotate_left
  focus (intro w hSw; (try dsimp only at hSw); go_simp; try (with_reducible rfl))
  try simp only [Act.put, List.setIfInBounds_toArray, List.set_cons_zero, List.set_cons_succ]
  refine wpAnyH_take (i := 44) (oi := { dst := some 111, op := Op.binOp BinOp.eql 26 (Operand.tmp 110) (Operand.const (Value.int IntKind.i64 20)) 26, type := 4, pos := "law.go:28", after := #[{ on := 43, ground := Ground.data }, { on := 42, ground := Ground.guard }], guard := some (42, true) }) (v := ?_) (listed := al11_l44) al11_g44 al11_nosel al11_f44 al11_r44 (fun _ _ _ h => h) (Or.inl ⟨by rfl, ?_⟩) (by assumption) ?_
  rotate_left
  focus (intro w hSw; (try dsimp only at hSw); go_simp; try (with_reducible rfl))
  try simp only [Act.put, List.setIfInBounds_toArray, List.set_cons_zero, List.set_cons_succ]
  refine wpAnyH_take (i := 45) (oi := { dst := some 112, op := Op.pick (Operand.tmp 109) (Operand.tmp 111) (Operand.const (Value.bool false)), type := 4, pos := "law.go:28", after := #[{ on := 42, ground := Ground.data }, { on := 44, ground := Ground.data }], guard := none }) (v := ?_) (listed := al11_l45) al11_g45 al11_nosel al11_f45 al11_r45 (fun _ _ _ h => h) (Or.inl ⟨by rfl, ?_⟩) (by assumption) ?_
  rotate_left
  focus (intro w hSw; (try dsimp only at hSw); go_simp; try (with_reducible rfl))
  try simp only [Act.put, List.setIfInBounds_toArray, List.set_cons_zero, List.set_cons_succ]
  refine wpAnyH_take (i := 46) (oi := { dst := some 113, op := Op.move (Operand.tmp 112), type := 4, pos := "law.go:28", after := #[{ on := 45, ground := Ground.data }, { on := 42, ground := Ground.chain }], guard := none }) (v := ?_) (listed := al11_l46) al11_g46 al11_nosel al11_f46 al11_r46 (fun _ _ _ h => h) (Or.inl ⟨by rfl, ?_⟩) (by assumption) ?_
  rotate_left
  focus (intro w hSw; (try dsimp only at hSw); go_simp; try (with_reducible rfl))
  try simp only [Act.put, List.setIfInBounds_toArray, List.set_cons_zero, List.set_cons_succ]
  refine wpAnyH_take (i := 47) (oi := { dst := some 114, op := Op.move (Operand.tmp 17), type := 5, pos := "law.go:28", after := #[{ on := 46, ground := Ground.guard }], guard := some (46, true) }) (v := ?_) (listed := al11_l47) al11_g47 al11_nosel al11_f47 al11_r47 (fun _ _ _ h => h) (Or.inl ⟨by rfl, ?_⟩) (by assumption) ?_
  rotate_left
  focus (intro w hSw; (try dsimp only at hSw); go_simp; try (with_reducible rfl))
  try simp only [Act.put, List.setIfInBounds_toArray, List.set_cons_zero, List.set_cons_succ]
  refine wpAnyH_take (i := 48) (oi := { dst := some 115, op := Op.binOp BinOp.eql 5 (Operand.tmp 114) (Operand.const (Value.int IntKind.u8 0)) 5, type := 4, pos := "law.go:28", after := #[{ on := 47, ground := Ground.data }, { on := 46, ground := Ground.guard }], guard := some (46, true) }) (v := ?_) (listed := al11_l48) al11_g48 al11_nosel al11_f48 al11_r48 (fun _ _ _ h => h) (Or.inl ⟨by rfl, ?_⟩) (by assumption) ?_
  rotate_left
  focus (intro w hSw; (try dsimp only at hSw); go_simp; try (with_reducible rfl))
  try simp only [Act.put, List.setIfInBounds_toArray, List.set_cons_zero, List.set_cons_succ]
  refine wpAnyH_take (i := 49) (oi := { dst := some 116, op := Op.pick (Operand.tmp 113) (Operand.tmp 115) (Operand.const (Value.bool false)), type := 4, pos := "law.go:28", after := #[{ on := 46, ground := Ground.data }, { on := 48, ground := Ground.data }], guard := none }) (v := ?_) (listed := al11_l49) al11_g49 al11_nosel al11_f49 al11_r49 (fun _ _ _ h => h) (Or.inl ⟨by rfl, ?_⟩) (by assumption) ?_
  rotate_left
  focus (intro w hSw; (try dsimp only at hSw); go_simp; try (with_reducible rfl))
  try simp only [Act.put, List.setIfInBounds_toArray, List.set_cons_zero, List.set_cons_succ]
  refine wpAnyH_take (i := 50) (oi := { dst := some 117, op := Op.move (Operand.tmp 116), type := 4, pos := "law.go:28", after := #[{ on := 49, ground := Ground.data }, { on := 46, ground := Ground.chain }], guard := none }) (v := ?_) (listed := al11_l50) al11_g50 al11_nosel al11_f50 al11_r50 (fun _ _ _ h => h) (Or.inl ⟨by rfl, ?_⟩) (by assumption) ?_
  rotate_left
  focus (intro w hSw; (try dsimp only at hSw); go_simp; try (with_reducible rfl))
  try simp only [Act.put, List.setIfInBounds_toArray, List.set_cons_zero, List.set_cons_succ]
  refine wpAnyH_take (i := 51) (oi := { dst := some 118, op := Op.move (Operand.tmp 18), type := 4, pos := "law.go:28", after := #[{ on := 50, ground := Ground.guard }], guard := some (50, true) }) (v := ?_) (listed := al11_l51) al11_g51 al11_nosel al11_f51 al11_r51 (fun _ _ _ h => h) (Or.inl ⟨by rfl, ?_⟩) (by assumption) ?_
  rotate_left
  focus (intro w hSw; (try dsimp only at hSw); go_simp; try (with_reducible rfl))
  try simp only [Act.put, List.setIfInBounds_toArray, List.set_cons_zero, List.set_cons_succ]
  refine wpAnyH_take (i := 52) (oi := { dst := some 119, op := Op.unOp UnOp.not 4 (Operand.tmp 118), type := 4, pos := "law.go:28", after := #[{ on := 51, ground := Ground.data }, { on := 50, ground := Ground.guard }], guard := some (50, true) }) (v := ?_) (listed := al11_l52) al11_g52 al11_nosel al11_f52 al11_r52 (fun _ _ _ h => h) (Or.inl ⟨by rfl, ?_⟩) (by assumption) ?_
  rotate_left
  focus (intro w hSw; (try dsimp only at hSw); go_simp; try (with_reducible rfl))
  try simp only [Act.put, List.setIfInBounds_toArray, List.set_cons_zero, List.set_cons_succ]
  refine wpAnyH_take (i := 53) (oi := { dst := some 120, op := Op.pick (Operand.tmp 117) (Operand.tmp 119) (Operand.const (Value.bool false)), type := 4, pos := "law.go:28", after := #[{ on := 50, ground := Ground.data }, { on := 52, ground := Ground.data }], guard := none }) (v := ?_) (listed := al11_l53) al11_g53 al11_nosel al11_f53 al11_r53 (fun _ _ _ h => h) (Or.inl ⟨by rfl, ?_⟩) (by assumption) ?_
  rotate_left
  focus (intro w hSw; (try dsimp only at hSw); go_simp; try (with_reducible rfl))
  try simp only [Act.put, List.setIfInBounds_toArray, List.set_cons_zero, List.set_cons_succ]
  refine wpAnyH_take (i := 54) (oi := { dst := some 121, op := Op.move (Operand.tmp 120), type := 4, pos := "law.go:28", after := #[{ on := 53, ground := Ground.data }, { on := 50, ground := Ground.chain }], guard := none }) (v := ?_) (listed := al11_l54) al11_g54 al11_nosel al11_f54 al11_r54 (fun _ _ _ h => h) (Or.inl ⟨by rfl, ?_⟩) (by assumption) ?_
  rotate_left
  focus (intro w hSw; (try dsimp only at hSw); go_simp; try (with_reducible rfl))
  try simp only [Act.put, List.setIfInBounds_toArray, List.set_cons_zero, List.set_cons_succ]
  refine wpAnyH_take (i := 55) (oi := { dst := some 122, op := Op.move (Operand.tmp 19), type := 4, pos := "law.go:28", after := #[{ on := 54, ground := Ground.guard }], guard := some (54, true) }) (v := ?_) (listed := al11_l55) al11_g55 al11_nosel al11_f55 al11_r55 (fun _ _ _ h => h) (Or.inl ⟨by rfl, ?_⟩) (by assumption) ?_
  rotate_left
  focus (intro w hSw; (try dsimp only at hSw); go_simp; try (with_reducible rfl))
  try simp only [Act.put, List.setIfInBounds_toArray, List.set_cons_zero, List.set_cons_succ]
  refine wpAnyH_take (i := 56) (oi := { dst := some 123, op := Op.pick (Operand.tmp 121) (Operand.tmp 122) (Operand.const (Value.bool false)), type := 4, pos := "law.go:28", after := #[{ on := 54, ground := Ground.data }, { on := 55, ground := Ground.data }], guard := none }) (v := ?_) (listed := al11_l56) al11_g56 al11_nosel al11_f56 al11_r56 (fun _ _ _ h => h) (Or.inl ⟨by rfl, ?_⟩) (by assumption) ?_
  rotate_left
  focus (intro w hSw; (try dsimp only at hSw); go_simp; try (with_reducible rfl))
  try simp only [Act.put, List.setIfInBounds_toArray, List.set_cons_zero, List.set_cons_succ]
  refine wpAnyH_take (i := 57) (oi := { dst := some 124, op := Op.move (Operand.tmp 123), type := 4, pos := "law.go:28", after := #[{ on := 56, ground := Ground.data }, { on := 54, ground := Ground.chain }], guard := none }) (v := ?_) (listed := al11_l57) al11_g57 al11_nosel al11_f57 al11_r57 (fun _ _ _ h => h) (Or.inl ⟨by rfl, ?_⟩) (by assumption) ?_
  rotate_left
  focus (intro w hSw; (try dsimp only at hSw); go_simp; try (with_reducible rfl))
  try simp only [Act.put, List.setIfInBounds_toArray, List.set_cons_zero, List.set_cons_succ]
  refine wpAnyH_ready (rs := [58]) (listed := al11_l58) al11_r58 (by simp) (AllReadyH.cons (o := { dst := some 125, op := Op.call { callee := Callee.value (Operand.func 23), args := #[Operand.const (Value.int IntKind.i64 31)], argTypes := #[26] }, type := 5, pos := "law.go:28", after := #[{ on := 57, ground := Ground.chain }, { on := 57, ground := Ground.guard }], guard := some (57, true) }) al11_g58 (fun K hK => ?_) AllReadyH.nil)
  rw [if_pos (by rfl)]
  go_simp
  (go_at_call 23; refine (hcode_any 31 _).mono ?_; rintro e w5 ⟨rfl, rfl⟩; rw [HCB31.out])
  go_wp2_with fail
  refine hK.out _ _ (QS.sl HQ14.out) (fun hHeld => ?_)
  clear hK K
  try simp only [Act.put, List.setIfInBounds_toArray, List.set_cons_zero, List.set_cons_succ]
  refine wpAnyH_take (i := 59) (oi := { dst := some 126, op := Op.binOp BinOp.eql 5 (Operand.tmp 125) (Operand.const (Value.int IntKind.u8 2)) 5, type := 4, pos := "law.go:28", after := #[{ on := 58, ground := Ground.data }, { on := 57, ground := Ground.guard }], guard := some (57, true) }) (v := ?_) (listed := al11_l59) al11_g59 al11_nosel al11_f59 al11_r59 (fun _ _ _ h => h) (Or.inl ⟨by rfl, ?_⟩) (by assumption) ?_
  rotate_left
  focus (intro w hSw; (try dsimp only at hSw); go_simp; try (with_reducible rfl))
  try simp only [Act.put, List.setIfInBounds_toArray, List.set_cons_zero, List.set_cons_succ]
  refine wpAnyH_take (i := 60) (oi := { dst := some 127, op := Op.pick (Operand.tmp 124) (Operand.tmp 126) (Operand.const (Value.bool false)), type := 4, pos := "law.go:28", after := #[{ on := 57, ground := Ground.data }, { on := 59, ground := Ground.data }], guard := none }) (v := ?_) (listed := al11_l60) al11_g60 al11_nosel al11_f60 al11_r60 (fun _ _ _ h => h) (Or.inl ⟨by rfl, ?_⟩) (by assumption) ?_
  rotate_left
  focus (intro w hSw; (try dsimp only at hSw); go_simp; try (with_reducible rfl))
  try simp only [Act.put, List.setIfInBounds_toArray, List.set_cons_zero, List.set_cons_succ]
  refine wpAnyH_take (i := 61) (oi := { dst := some 128, op := Op.move (Operand.tmp 127), type := 4, pos := "law.go:28", after := #[{ on := 60, ground := Ground.data }, { on := 58, ground := Ground.chain }], guard := none }) (v := ?_) (listed := al11_l61) al11_g61 al11_nosel al11_f61 al11_r61 (fun _ _ _ h => h) (Or.inl ⟨by rfl, ?_⟩) (by assumption) ?_
  rotate_left
  focus (intro w hSw; (try dsimp only at hSw); go_simp; try (with_reducible rfl))
  try simp only [Act.put, List.setIfInBounds_toArray, List.set_cons_zero, List.set_cons_succ]
  refine wpAnyH_take (i := 62) (oi := { dst := some 129, op := Op.move (Operand.tmp 21), type := 23, pos := "law.go:28", after := #[{ on := 61, ground := Ground.guard }], guard := some (61, true) }) (v := ?_) (listed := al11_l62) al11_g62 al11_nosel al11_f62 al11_r62 (fun _ _ _ h => h) (Or.inl ⟨by rfl, ?_⟩) (by assumption) ?_
  rotate_left
  focus (intro w hSw; (try dsimp only at hSw); go_simp; try (with_reducible rfl))
  try simp only [Act.put, List.setIfInBounds_toArray, List.set_cons_zero, List.set_cons_succ]
  refine wpAnyH_take (i := 63) (oi := { dst := some 130, op := Op.binOp BinOp.eql 23 (Operand.tmp 129) (Operand.const (Value.int IntKind.u16 0)) 23, type := 4, pos := "law.go:28", after := #[{ on := 62, ground := Ground.data }, { on := 61, ground := Ground.guard }], guard := some (61, true) }) (v := ?_) (listed := al11_l63) al11_g63 al11_nosel al11_f63 al11_r63 (fun _ _ _ h => h) (Or.inl ⟨by rfl, ?_⟩) (by assumption) ?_
  rotate_left
  focus (intro w hSw; (try dsimp only at hSw); go_simp; try (with_reducible rfl))
  try simp only [Act.put, List.setIfInBounds_toArray, List.set_cons_zero, List.set_cons_succ]
  refine wpAnyH_take (i := 64) (oi := { dst := some 131, op := Op.pick (Operand.tmp 128) (Operand.tmp 130) (Operand.const (Value.bool false)), type := 4, pos := "law.go:28", after := #[{ on := 61, ground := Ground.data }, { on := 63, ground := Ground.data }], guard := none }) (v := ?_) (listed := al11_l64) al11_g64 al11_nosel al11_f64 al11_r64 (fun _ _ _ h => h) (Or.inl ⟨by rfl, ?_⟩) (by assumption) ?_
  rotate_left
  focus (intro w hSw; (try dsimp only at hSw); go_simp; try (with_reducible rfl))
  try simp only [Act.put, List.setIfInBounds_toArray, List.set_cons_zero, List.set_cons_succ]
  refine wpAnyH_take (i := 65) (oi := { dst := some 132, op := Op.move (Operand.tmp 131), type := 4, pos := "law.go:28", after := #[{ on := 64, ground := Ground.data }, { on := 61, ground := Ground.chain }], guard := none }) (v := ?_) (listed := al11_l65) al11_g65 al11_nosel al11_f65 al11_r65 (fun _ _ _ h => h) (Or.inl ⟨by rfl, ?_⟩) (by assumption) ?_
  rotate_left
  focus (intro w hSw; (try dsimp only at hSw); go_simp; try (with_reducible rfl))
  try simp only [Act.put, List.setIfInBounds_toArray, List.set_cons_zero, List.set_cons_succ]
  refine wpAnyH_take (i := 66) (oi := { dst := some 133, op := Op.move (Operand.tmp 22), type := 23, pos := "law.go:28", after := #[{ on := 65, ground := Ground.guard }], guard := some (65, true) }) (v := ?_) (listed := al11_l66) al11_g66 al11_nosel al11_f66 al11_r66 (fun _ _ _ h => h) (Or.inl ⟨by rfl, ?_⟩) (by assumption) ?_
  rotate_left
  focus (intro w hSw; (try dsimp only at hSw); go_simp; try (with_reducible rfl))
  try simp only [Act.put, List.setIfInBounds_toArray, List.set_cons_zero, List.set_cons_succ]
  refine wpAnyH_take (i := 67) (oi := { dst := some 134, op := Op.binOp BinOp.eql 23 (Operand.tmp 133) (Operand.const (Value.int IntKind.u16 1)) 23, type := 4, pos := "law.go:28", after := #[{ on := 66, ground := Ground.data }, { on := 65, ground := Ground.guard }], guard := some (65, true) }) (v := ?_) (listed := al11_l67) al11_g67 al11_nosel al11_f67 al11_r67 (fun _ _ _ h => h) (Or.inl ⟨by rfl, ?_⟩) (by assumption) ?_
  rotate_left
  focus (intro w hSw; (try dsimp only at hSw); go_simp; try (with_reducible rfl))
  try simp only [Act.put, List.setIfInBounds_toArray, List.set_cons_zero, List.set_cons_succ]
  refine wpAnyH_take (i := 68) (oi := { dst := some 135, op := Op.pick (Operand.tmp 132) (Operand.tmp 134) (Operand.const (Value.bool false)), type := 4, pos := "law.go:28", after := #[{ on := 65, ground := Ground.data }, { on := 67, ground := Ground.data }], guard := none }) (v := ?_) (listed := al11_l68) al11_g68 al11_nosel al11_f68 al11_r68 (fun _ _ _ h => h) (Or.inl ⟨by rfl, ?_⟩) (by assumption) ?_
  rotate_left
  focus (intro w hSw; (try dsimp only at hSw); go_simp; try (with_reducible rfl))
  try simp only [Act.put, List.setIfInBounds_toArray, List.set_cons_zero, List.set_cons_succ]
  refine wpAnyH_take (i := 69) (oi := { dst := some 136, op := Op.move (Operand.tmp 135), type := 4, pos := "law.go:28", after := #[{ on := 68, ground := Ground.data }, { on := 65, ground := Ground.chain }], guard := none }) (v := ?_) (listed := al11_l69) al11_g69 al11_nosel al11_f69 al11_r69 (fun _ _ _ h => h) (Or.inl ⟨by rfl, ?_⟩) (by assumption) ?_
  rotate_left
  focus (intro w hSw; (try dsimp only at hSw); go_simp; try (with_reducible rfl))
  try simp only [Act.put, List.setIfInBounds_toArray, List.set_cons_zero, List.set_cons_succ]
  refine wpAnyH_ready (rs := [70]) (listed := al11_l70) al11_r70 (by simp) (AllReadyH.cons (o := { dst := some 137, op := Op.call { callee := Callee.value (Operand.func 31), args := #[Operand.tmp 20], argTypes := #[50] }, type := 3, pos := "law.go:28", after := #[{ on := 69, ground := Ground.chain }, { on := 69, ground := Ground.guard }], guard := some (69, true) }) al11_g70 (fun K hK => ?_) AllReadyH.nil)
  rw [if_pos (by rfl)]
  go_simp
  (go_at_call 31; refine (show Calls Try.prog 31 #[.pointer (some ⟨cb, 0, none⟩)] W14.drew fun e w' => e = .returned (.int .i64 2) ∧ W14.drew = w' from pending_any HC14.out).mono ?_; rintro e w5 ⟨rfl, rfl⟩)
  go_wp2_with fail
  refine hK.out _ _ (QS.sl HQ14.out) (fun hHeld => ?_)
  clear hK K
  try simp only [Act.put, List.setIfInBounds_toArray, List.set_cons_zero, List.set_cons_succ]
  refine wpAnyH_take (i := 71) (oi := { dst := some 138, op := Op.binOp BinOp.eql 3 (Operand.tmp 137) (Operand.const (Value.int IntKind.i64 2)) 3, type := 4, pos := "law.go:28", after := #[{ on := 70, ground := Ground.data }, { on := 69, ground := Ground.guard }], guard := some (69, true) }) (v := ?_) (listed := al11_l71) al11_g71 al11_nosel al11_f71 al11_r71 (fun _ _ _ h => h) (Or.inl ⟨by rfl, ?_⟩) (by assumption) ?_
  rotate_left
  focus (intro w hSw; (try dsimp only at hSw); go_simp; try (with_reducible rfl))
  try simp only [Act.put, List.setIfInBounds_toArray, List.set_cons_zero, List.set_cons_succ]
  refine wpAnyH_take (i := 72) (oi := { dst := some 139, op := Op.pick (Operand.tmp 136) (Operand.tmp 138) (Operand.const (Value.bool false)), type := 4, pos := "law.go:28", after := #[{ on := 69, ground := Ground.data }, { on := 71, ground := Ground.data }], guard := none }) (v := ?_) (listed := al11_l72) al11_g72 al11_nosel al11_f72 al11_r72 (fun _ _ _ h => h) (Or.inl ⟨by rfl, ?_⟩) (by assumption) ?_
  rotate_left
  focus (intro w hSw; (try dsimp only at hSw); go_simp; try (with_reducible rfl))
  try simp only [Act.put, List.setIfInBounds_toArray, List.set_cons_zero, List.set_cons_succ]
  refine wpAnyH_take (i := 73) (oi := { dst := some 140, op := Op.move (Operand.tmp 139), type := 4, pos := "law.go:28", after := #[{ on := 72, ground := Ground.data }, { on := 70, ground := Ground.chain }], guard := none }) (v := ?_) (listed := al11_l73) al11_g73 al11_nosel al11_f73 al11_r73 (fun _ _ _ h => h) (Or.inl ⟨by rfl, ?_⟩) (by assumption) ?_
  rotate_left
  focus (intro w hSw; (try dsimp only at hSw); go_simp; try (with_reducible rfl))
  try simp only [Act.put, List.setIfInBounds_toArray, List.set_cons_zero, List.set_cons_succ]
  refine wpAnyH_ready (rs := [74]) (listed := al11_l74) al11_r74 (by simp) (AllReadyH.cons (o := { dst := some 141, op := Op.call { callee := Callee.value (Operand.func 29), args := #[Operand.tmp 20, Operand.const (Value.int IntKind.u16 0)], argTypes := #[50, 23] }, type := 4, pos := "law.go:28", after := #[{ on := 73, ground := Ground.chain }, { on := 73, ground := Ground.guard }], guard := some (73, true) }) al11_g74 (fun K hK => ?_) AllReadyH.nil)
  rw [if_pos (by rfl)]
  go_simp
  (go_at_call 29; refine (show Calls Try.prog 29 #[.pointer (some ⟨cb, 0, none⟩), .int .u16 0] W14.drew fun e w' => e = .returned (.bool true) ∧ CntAt w' cb 2 [1] ∧ Turn (At cb) W14.drew w' from got_any 0 HC14.out).mono ?_; rintro e W15 ⟨rfl, hc15, ht15⟩; have HC15 := Lib.hid hc15; have hb15 := HB14.out.trans (ht15.at_below HB14.out.size HCBL.out); have HB15 := Lib.hid hb15; have HQ15 := Lib.hid (HQ11.out.below hb15); clear hc15 ht15 hb15)
  go_wp2_with fail
  refine hK.out _ _ (QS.sl HQ15.out) (fun hHeld => ?_)
  clear hK K
  try simp only [Act.put, List.setIfInBounds_toArray, List.set_cons_zero, List.set_cons_succ]
  refine wpAnyH_take (i := 75) (oi := { dst := some 142, op := Op.pick (Operand.tmp 140) (Operand.tmp 141) (Operand.const (Value.bool false)), type := 4, pos := "law.go:28", after := #[{ on := 73, ground := Ground.data }, { on := 74, ground := Ground.data }], guard := none }) (v := ?_) (listed := al11_l75) al11_g75 al11_nosel al11_f75 al11_r75 (fun _ _ _ h => h) (Or.inl ⟨by rfl, ?_⟩) (by assumption) ?_
  rotate_left
  focus (intro w hSw; (try dsimp only at hSw); go_simp; try (with_reducible rfl))
  try simp only [Act.put, List.setIfInBounds_toArray, List.set_cons_zero, List.set_cons_succ]
  refine wpAnyH_take (i := 76) (oi := { dst := some 143, op := Op.move (Operand.tmp 142), type := 4, pos := "law.go:28", after := #[{ on := 75, ground := Ground.data }, { on := 74, ground := Ground.chain }], guard := none }) (v := ?_) (listed := al11_l76) al11_g76 al11_nosel al11_f76 al11_r76 (fun _ _ _ h => h) (Or.inl ⟨by rfl, ?_⟩) (by assumption) ?_
  rotate_left
  focus (intro w hSw; (try dsimp only at hSw); go_simp; try (with_reducible rfl))
  try simp only [Act.put, List.setIfInBounds_toArray, List.set_cons_zero, List.set_cons_succ]
  refine wpAnyH_ready (rs := [77]) (listed := al11_l77) al11_r77 (by simp) (AllReadyH.cons (o := { dst := some 144, op := Op.call { callee := Callee.value (Operand.func 29), args := #[Operand.tmp 20, Operand.const (Value.int IntKind.u16 0)], argTypes := #[50, 23] }, type := 4, pos := "law.go:28", after := #[{ on := 76, ground := Ground.chain }, { on := 76, ground := Ground.guard }], guard := some (76, true) }) al11_g77 (fun K hK => ?_) AllReadyH.nil)
  rw [if_pos (by rfl)]
  go_simp
  (go_at_call 29; refine (show Calls Try.prog 29 #[.pointer (some ⟨cb, 0, none⟩), .int .u16 0] W15 fun e w' => e = .returned (.bool false) ∧ CntAt w' cb 2 [1] ∧ Turn (At cb) W15 w' from got_any 0 HC15.out).mono ?_; rintro e W16 ⟨rfl, hc16, ht16⟩; have HC16 := Lib.hid hc16; have hb16 := HB15.out.trans (ht16.at_below HB15.out.size HCBL.out); have HQ16 := Lib.hid (HQ11.out.below hb16); clear hc16 ht16 hb16)
  go_wp2_with fail
  refine hK.out _ _ (QS.sl HQ16.out) (fun hHeld => ?_)
  clear hK K
  try simp only [Act.put, List.setIfInBounds_toArray, List.set_cons_zero, List.set_cons_succ]
  refine wpAnyH_take (i := 78) (oi := { dst := some 145, op := Op.unOp UnOp.not 4 (Operand.tmp 144), type := 4, pos := "law.go:28", after := #[{ on := 77, ground := Ground.data }, { on := 76, ground := Ground.guard }], guard := some (76, true) }) (v := ?_) (listed := al11_l78) al11_g78 al11_nosel al11_f78 al11_r78 (fun _ _ _ h => h) (Or.inl ⟨by rfl, ?_⟩) (by assumption) ?_
  rotate_left
  focus (intro w hSw; (try dsimp only at hSw); go_simp; try (with_reducible rfl))
  try simp only [Act.put, List.setIfInBounds_toArray, List.set_cons_zero, List.set_cons_succ]
  refine wpAnyH_take (i := 79) (oi := { dst := some 146, op := Op.pick (Operand.tmp 143) (Operand.tmp 145) (Operand.const (Value.bool false)), type := 4, pos := "law.go:28", after := #[{ on := 76, ground := Ground.data }, { on := 78, ground := Ground.data }], guard := none }) (v := ?_) (listed := al11_l79) al11_g79 al11_nosel al11_f79 al11_r79 (fun _ _ _ h => h) (Or.inl ⟨by rfl, ?_⟩) (by assumption) ?_
  rotate_left
  focus (intro w hSw; (try dsimp only at hSw); go_simp; try (with_reducible rfl))
  try simp only [Act.put, List.setIfInBounds_toArray, List.set_cons_zero, List.set_cons_succ]
  refine wpAnyH_take (i := 80) (oi := { dst := some 147, op := Op.move (Operand.tmp 146), type := 4, pos := "law.go:28", after := #[{ on := 79, ground := Ground.data }, { on := 77, ground := Ground.chain }], guard := none }) (v := ?_) (listed := al11_l80) al11_g80 al11_nosel al11_f80 al11_r80 (fun _ _ _ h => h) (Or.inl ⟨by rfl, ?_⟩) (by assumption) ?_
  rotate_left
  focus (intro w hSw; (try dsimp only at hSw); go_simp; try (with_reducible rfl))
  try simp only [Act.put, List.setIfInBounds_toArray, List.set_cons_zero, List.set_cons_succ]
  refine wpAnyH_ready (rs := [81]) (listed := al11_l81) al11_r81 (by simp) (AllReadyH.cons (o := { dst := some 148, op := Op.call { callee := Callee.value (Operand.func 31), args := #[Operand.tmp 20], argTypes := #[50] }, type := 3, pos := "law.go:28", after := #[{ on := 80, ground := Ground.chain }, { on := 80, ground := Ground.guard }], guard := some (80, true) }) al11_g81 (fun K hK => ?_) AllReadyH.nil)
  rw [if_pos (by rfl)]
  go_simp
  (go_at_call 31; refine (show Calls Try.prog 31 #[.pointer (some ⟨cb, 0, none⟩)] W16 fun e w' => e = .returned (.int .i64 1) ∧ W16 = w' from pending_any HC16.out).mono ?_; rintro e w5 ⟨rfl, rfl⟩)
  go_wp2_with fail
  refine hK.out _ _ (QS.sl HQ16.out) (fun hHeld => ?_)
  clear hK K
  try simp only [Act.put, List.setIfInBounds_toArray, List.set_cons_zero, List.set_cons_succ]
  refine wpAnyH_take (i := 82) (oi := { dst := some 149, op := Op.binOp BinOp.eql 3 (Operand.tmp 148) (Operand.const (Value.int IntKind.i64 1)) 3, type := 4, pos := "law.go:28", after := #[{ on := 81, ground := Ground.data }, { on := 80, ground := Ground.guard }], guard := some (80, true) }) (v := ?_) (listed := al11_l82) al11_g82 al11_nosel al11_f82 al11_r82 (fun _ _ _ h => h) (Or.inl ⟨by rfl, ?_⟩) (by assumption) ?_
  rotate_left
  focus (intro w hSw; (try dsimp only at hSw); go_simp; try (with_reducible rfl))
  try simp only [Act.put, List.setIfInBounds_toArray, List.set_cons_zero, List.set_cons_succ]
  refine wpAnyH_take (i := 83) (oi := { dst := some 150, op := Op.pick (Operand.tmp 147) (Operand.tmp 149) (Operand.const (Value.bool false)), type := 4, pos := "law.go:28", after := #[{ on := 80, ground := Ground.data }, { on := 82, ground := Ground.data }], guard := none }) (v := ?_) (listed := al11_l83) al11_g83 al11_nosel al11_f83 al11_r83 (fun _ _ _ h => h) (Or.inl ⟨by rfl, ?_⟩) (by assumption) ?_
  rotate_left
  focus (intro w hSw; (try dsimp only at hSw); go_simp; try (with_reducible rfl))
  try simp only [Act.put, List.setIfInBounds_toArray, List.set_cons_zero, List.set_cons_succ]
  refine wpAnyH_take (i := 84) (oi := { dst := some 151, op := Op.move (Operand.tmp 150), type := 4, pos := "law.go:28", after := #[{ on := 83, ground := Ground.data }, { on := 81, ground := Ground.chain }], guard := none }) (v := ?_) (listed := al11_l84) al11_g84 al11_nosel al11_f84 al11_r84 (fun _ _ _ h => h) (Or.inl ⟨by rfl, ?_⟩) (by assumption) ?_
  rotate_left
  focus (intro w hSw; (try dsimp only at hSw); go_simp; try (with_reducible rfl))
  try simp only [Act.put, List.setIfInBounds_toArray, List.set_cons_zero, List.set_cons_succ]
  refine wpAnyH_take (i := 85) (oi := { dst := some 152, op := Op.pick (Operand.tmp 151) (Operand.const (Value.bool true)) (Operand.const (Value.bool false)), type := 4, pos := "law.go:28", after := #[{ on := 84, ground := Ground.data }], guard := none }) (v := ?_) (listed := al11_l85) al11_g85 al11_nosel al11_f85 al11_r85 (fun _ _ _ h => h) (Or.inl ⟨by rfl, ?_⟩) (by assumption) ?_
  rotate_left
  focus (intro w hSw; (try dsimp only at hSw); go_simp; try (with_reducible rfl))
  try simp only [Act.put, List.setIfInBounds_toArray, List.set_cons_zero, List.set_cons_succ]
  refine wpAnyH_take (i := 86) (oi := { dst := some 153, op := Op.move (Operand.tmp 152), type := 4, pos := "law.go:28", after := #[{ on := 85, ground := Ground.data }, { on := 84, ground := Ground.chain }], guard := none }) (v := ?_) (listed := al11_l86) al11_g86 al11_nosel al11_f86 al11_r86 (fun _ _ _ h => h) (Or.inl ⟨by rfl, ?_⟩) (by assumption) ?_
  rotate_left
  focus (intro w hSw; (try dsimp only at hSw); go_simp; try (with_reducible rfl))
  try simp only [Act.put, List.setIfInBounds_toArray, List.set_cons_zero, List.set_cons_succ]
  refine wpAnyH_take (i := 87) (oi := { dst := some 154, op := Op.load 25 (Operand.tmp 2), type := 25, pos := "law.go:28", after := #[{ on := 86, ground := Ground.guard }], guard := some (86, true) }) (v := ?_) (listed := al11_l87) al11_g87 al11_nosel al11_f87 al11_r87 (fun _ _ _ h => h) (Or.inl ⟨by rfl, ?_⟩) (by assumption) ?_
  rotate_left
  focus (intro w hSw; (try dsimp only at hSw); go_simp; try (with_reducible rfl))
  try simp only [Act.put, List.setIfInBounds_toArray, List.set_cons_zero, List.set_cons_succ]
  refine wpAnyH_take (i := 88) (oi := { dst := some 155, op := Op.move (Operand.tmp 3), type := 22, pos := "law.go:28", after := #[{ on := 86, ground := Ground.guard }], guard := some (86, true) }) (v := ?_) (listed := al11_l88) al11_g88 al11_nosel al11_f88 al11_r88 (fun _ _ _ h => h) (Or.inl ⟨by rfl, ?_⟩) (by assumption) ?_
  rotate_left
  focus (intro w hSw; (try dsimp only at hSw); go_simp; try (with_reducible rfl))
  try simp only [Act.put, List.setIfInBounds_toArray, List.set_cons_zero, List.set_cons_succ]
  refine wpAnyH_take (i := 91) (oi := { dst := some 158, op := Op.move (Operand.tmp 1), type := 22, pos := "law.go:28", after := #[{ on := 86, ground := Ground.guard }], guard := some (86, true) }) (v := ?_) (listed := al11_l89) al11_g91 al11_nosel al11_f89 al11_r89 (fun _ _ _ h => h) (Or.inl ⟨by rfl, ?_⟩) (by assumption) ?_
  rotate_left
  focus (intro w hSw; (try dsimp only at hSw); go_simp; try (with_reducible rfl))
  try simp only [Act.put, List.setIfInBounds_toArray, List.set_cons_zero, List.set_cons_succ]
  refine wpAnyH_take (i := 92) (oi := { dst := some 159, op := Op.convert 22 9 (Operand.tmp 158), type := 9, pos := "law.go:28", after := #[{ on := 91, ground := Ground.data }, { on := 86, ground := Ground.guard }], guard := some (86, true) }) (v := ?_) (listed := al11_l90) al11_g92 al11_nosel al11_f90 al11_r90 (fun _ _ _ h => h) (Or.inl ⟨by rfl, ?_⟩) (by assumption) ?_
  rotate_left
  focus (intro w hSw; (try dsimp only at hSw); go_simp; try (with_reducible rfl))
  try simp only [Act.put, List.setIfInBounds_toArray, List.set_cons_zero, List.set_cons_succ]
  refine wpAnyH_ready (rs := [89]) (listed := al11_l91) al11_r91 (by simp) (AllReadyH.cons (o := { dst := some 156, op := Op.call { callee := Callee.value (Operand.func 25), args := #[Operand.tmp 154, Operand.tmp 155], argTypes := #[25, 22] }, type := 22, pos := "law.go:28", after := #[{ on := 87, ground := Ground.data }, { on := 88, ground := Ground.data }, { on := 86, ground := Ground.chain }, { on := 86, ground := Ground.guard }], guard := some (86, true) }) al11_g89 (fun K hK => ?_) AllReadyH.nil)
  rw [if_pos (by rfl)]
  go_simp
  (go_at_call 25; refine (call_write_ex r W16 HQ16.out.st.r.cut).mono ?_; rintro e W17 ⟨z, rfl, hz17, hb17⟩; have HQ17 := Lib.hid (HQ16.out.below hb17); have s17 := own_string hz17 #[0, 0, 2, 0, 7, 241] (by with_unfolding_all rfl); clear hz17 hb17)
  go_wp2_with fail
  refine hK.out _ _ (QS.sl HQ17.out) (fun hHeld => ?_)
  clear hK K
  try simp only [Act.put, List.setIfInBounds_toArray, List.set_cons_zero, List.set_cons_succ]
  refine wpAnyH_ready (rs := [90]) (listed := al11_l92) al11_r92 (by simp) (AllReadyH.cons (o := { dst := some 157, op := Op.convert 22 9 (Operand.tmp 156), type := 9, pos := "law.go:28", after := #[{ on := 89, ground := Ground.data }, { on := 86, ground := Ground.guard }], guard := some (86, true) }) al11_g90 (fun K hK => ?_) AllReadyH.nil)
  rw [if_pos (by rfl)]
  go_simp
  refine hK.out _ _ (QS.sl HQ17.out) (fun hHeld => ?_)
  clear hK K
  try simp only [Act.put, List.setIfInBounds_toArray, List.set_cons_zero, List.set_cons_succ]
  refine wpAnyH_take (i := 93) (oi := { dst := some 160, op := Op.binOp BinOp.eql 9 (Operand.tmp 157) (Operand.tmp 159) 9, type := 4, pos := "law.go:28", after := #[{ on := 90, ground := Ground.data }, { on := 92, ground := Ground.data }, { on := 86, ground := Ground.guard }], guard := some (86, true) }) (v := ?_) (listed := al11_l93) al11_g93 al11_nosel al11_f93 al11_r93 (fun _ _ _ h => h) (Or.inl ⟨by rfl, ?_⟩) (by assumption) ?_
  rotate_left
  focus (intro w hSw; (try dsimp only at hSw); go_simp; try (with_reducible rfl))
  try simp only [Act.put, List.setIfInBounds_toArray, List.set_cons_zero, List.set_cons_succ]
  refine wpAnyH_take (i := 94) (oi := { dst := some 161, op := Op.pick (Operand.tmp 153) (Operand.tmp 160) (Operand.const (Value.bool false)), type := 4, pos := "law.go:28", after := #[{ on := 86, ground := Ground.data }, { on := 93, ground := Ground.data }], guard := none }) (v := ?_) (listed := al11_l94) al11_g94 al11_nosel al11_f94 al11_r94 (fun _ _ _ h => h) (Or.inl ⟨by rfl, ?_⟩) (by assumption) ?_
  rotate_left
  focus (intro w hSw; (try dsimp only at hSw); go_simp; try (with_reducible rfl))
  try simp only [Act.put, List.setIfInBounds_toArray, List.set_cons_zero, List.set_cons_succ]
  refine wpAnyH_take (i := 95) (oi := { dst := some 0, op := Op.assign (Operand.tmp 161), type := 4, pos := "law.go:28", after := ([{ on := 94, ground := Ground.data }, { on := 89, ground := Ground.chain }, { on := 0, ground := Ground.phase }, { on := 1, ground := Ground.phase }, { on := 2, ground := Ground.phase }, { on := 3, ground := Ground.phase }, { on := 4, ground := Ground.phase }, { on := 5, ground := Ground.phase }, { on := 6, ground := Ground.phase }, { on := 7, ground := Ground.phase }, { on := 8, ground := Ground.phase }, { on := 9, ground := Ground.phase }, { on := 10, ground := Ground.phase }, { on := 11, ground := Ground.phase }, { on := 12, ground := Ground.phase }, { on := 13, ground := Ground.phase }, { on := 14, ground := Ground.phase }, { on := 15, ground := Ground.phase }, { on := 16, ground := Ground.phase }, { on := 17, ground := Ground.phase }, { on := 18, ground := Ground.phase }, { on := 19, ground := Ground.phase }, { on := 20, ground := Ground.phase }, { on := 21, ground := Ground.phase }, { on := 22, ground := Ground.phase }, { on := 23, ground := Ground.phase }, { on := 24, ground := Ground.phase }, { on := 25, ground := Ground.phase }, { on := 26, ground := Ground.phase }, { on := 27, ground := Ground.phase }, { on := 28, ground := Ground.phase }, { on := 29, ground := Ground.phase }, { on := 30, ground := Ground.phase }, { on := 31, ground := Ground.phase }, { on := 32, ground := Ground.phase }, { on := 33, ground := Ground.phase }, { on := 34, ground := Ground.phase }, { on := 35, ground := Ground.phase }, { on := 36, ground := Ground.phase }, { on := 37, ground := Ground.phase }, { on := 38, ground := Ground.phase }, { on := 39, ground := Ground.phase }, { on := 40, ground := Ground.phase }, { on := 41, ground := Ground.phase }, { on := 42, ground := Ground.phase }, { on := 43, ground := Ground.phase }, { on := 44, ground := Ground.phase }, { on := 45, ground := Ground.phase }].append [{ on := 46, ground := Ground.phase }, { on := 47, ground := Ground.phase }, { on := 48, ground := Ground.phase }, { on := 49, ground := Ground.phase }, { on := 50, ground := Ground.phase }, { on := 51, ground := Ground.phase }, { on := 52, ground := Ground.phase }, { on := 53, ground := Ground.phase }, { on := 54, ground := Ground.phase }, { on := 55, ground := Ground.phase }, { on := 56, ground := Ground.phase }, { on := 57, ground := Ground.phase }, { on := 58, ground := Ground.phase }, { on := 59, ground := Ground.phase }, { on := 60, ground := Ground.phase }, { on := 61, ground := Ground.phase }, { on := 62, ground := Ground.phase }, { on := 63, ground := Ground.phase }, { on := 64, ground := Ground.phase }, { on := 65, ground := Ground.phase }, { on := 66, ground := Ground.phase }, { on := 67, ground := Ground.phase }, { on := 68, ground := Ground.phase }, { on := 69, ground := Ground.phase }, { on := 70, ground := Ground.phase }, { on := 71, ground := Ground.phase }, { on := 72, ground := Ground.phase }, { on := 73, ground := Ground.phase }, { on := 74, ground := Ground.phase }, { on := 75, ground := Ground.phase }, { on := 76, ground := Ground.phase }, { on := 77, ground := Ground.phase }, { on := 78, ground := Ground.phase }, { on := 79, ground := Ground.phase }, { on := 80, ground := Ground.phase }, { on := 81, ground := Ground.phase }, { on := 82, ground := Ground.phase }, { on := 83, ground := Ground.phase }, { on := 84, ground := Ground.phase }, { on := 85, ground := Ground.phase }, { on := 86, ground := Ground.phase }, { on := 87, ground := Ground.phase }, { on := 88, ground := Ground.phase }, { on := 89, ground := Ground.phase }, { on := 90, ground := Ground.phase }, { on := 91, ground := Ground.phase }, { on := 92, ground := Ground.phase }, { on := 93, ground := Ground.phase }, { on := 94, ground := Ground.phase }]).toArray, guard := none }) (v := ?_) (listed := al11_l95) al11_g95 al11_nosel al11_f95 al11_r95 (fun _ _ _ h => h) (Or.inl ⟨by rfl, ?_⟩) (by assumption) ?_
  rotate_left
  focus (intro w hSw; (try dsimp only at hSw); go_simp; try (with_reducible rfl))
  try simp only [Act.put, List.setIfInBounds_toArray, List.set_cons_zero]
  refine wpAnyH_done (listed := al11_l96) al11_end ?_ _
  go_wp2
  go_ret
  exact ⟨rfl, HQ17.out.st.old⟩
end Go.Proofs.Ytfijcdidcnfadaa.Head
