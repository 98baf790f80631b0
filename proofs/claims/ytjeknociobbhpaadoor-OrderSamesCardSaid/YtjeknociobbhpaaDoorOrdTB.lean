/-
  An SF in words.
-/
import Derived.Test.YtjeknociobbhpaaDoorOrdTA
namespace Go.Proofs.YtjeknociobbhpaaDoor.Ord
open Go.RowKit Base
set_option linter.unusedVariables false
set_option linter.unusedSimpArgs false

theorem row_at {W : World} {g : Nat} {x : Int} {t : TypeId} {fz : Nat × Nat} (h : W.heap[g]? = some (.cells #[.int .u8 x] t fz)) : RowOf .u8 W (.slice (some ⟨g, 0, none⟩) 1 1) [x] := by
  refine ⟨_, 1, rfl, fun _ => ⟨_, 0, rfl, fun i hi => ?_⟩⟩
  obtain rfl : i = 0 := by simpa using hi
  simp [World.cell?, h]
theorem row_2a (W : World) (o : Obj) (x : Int) : RowOf .u8 ((W.alloc o).alloc (.cells #[.int .u8 x] 5)).drew (.slice (some ⟨W.heap.size + 1, 0, none⟩) 1 1) [x] := by
  have := row_one8d (W.alloc o) x 5
  rwa [World.size_alloc] at this
theorem row_2b (W : World) (o : Obj) (x : Int) : RowOf .u8 ((W.alloc (.cells #[.int .u8 x] 5)).alloc o).drew (.slice (some ⟨W.heap.size, 0, none⟩) 1 1) [x] :=
  row_at (W := ((W.alloc (.cells #[.int .u8 x] 5)).alloc o).drew) (((Below.heap_alloc (W.alloc (.cells #[.int .u8 x] 5)) o _ (by rw [World.size_alloc]; omega))).trans (heap_alloc_new W _))
/-- What stands at a region that appends: the text, and the order's block. -/
structure TQ (s ob : Nat) (cs : Array Value) (w0 W : World) (v : Value) (L : List Int) : Prop where
  own : OwnM s W v L
  box : W.heap[ob]? = some (.cells cs 35 (0, 0))
  old : Below s w0 W
  lo : s ≤ ob
section
variable {s ob : Nat} {cs : Array Value} {w0 W W' : World} {v v' : Value} {L L' : List Int}
theorem TQ.size (h : TQ s ob cs w0 W v L) : s ≤ W.heap.size := Nat.le_trans h.lo (Nat.le_of_lt (lt_of_block h.box))
theorem TQ.below (h : TQ s ob cs w0 W v L) (t : Below W.heap.size W W') : TQ s ob cs w0 W' v L := ⟨h.own.below t, (t.block ob (lt_of_block h.box)).trans h.box, h.old.trans (t.mono h.size), h.lo⟩
theorem TQ.alloc (h : TQ s ob cs w0 W v L) (o : Obj) : TQ s ob cs w0 (W.alloc o) v L := h.below (below_alloc W o)
theorem TQ.drew (h : TQ s ob cs w0 W v L) : TQ s ob cs w0 W.drew v L := h.below (Below.refl _ _).drew
theorem TQ.grown (h : TQ s ob cs w0 W v L) (hown : OwnM s W' v' L') (hg : W.grownBy W' v.ownBlock) : TQ s ob cs w0 W' v' L' :=
  ⟨hown, (Kept.of_grown h.own hg).box (by decide) h.box, h.old.grown hg h.size (fun r e => h.own.first r e), h.lo⟩
theorem TQ.after (h : TQ s ob cs w0 W v L) (hown : OwnM s W' v' L') (hb : Below s w0 W') (hk : Kept W W') : TQ s ob cs w0 W' v' L' := ⟨hown, hk.box (by decide) h.box, hb, h.lo⟩
/-- A row of one byte made behind the text stands when the text grows. -/
theorem TQ.row_grown {Z : World} {g : Nat} {x : Int} (h : TQ s ob cs w0 W v L) (hZ : Below W.heap.size W Z) (hg : Z.grownBy W' v.ownBlock) (hgl : W.heap.size ≤ g) (hr : RowOf .u8 Z (.slice (some ⟨g, 0, none⟩) 1 1) [x]) : RowOf .u8 W' (.slice (some ⟨g, 0, none⟩) 1 1) [x] := by
  obtain ⟨_, _, e, hc⟩ := hr
  injection e with e1 e2 e3
  obtain ⟨b, off, e4, hc⟩ := hc (by simp)
  rw [← e1] at e4
  injection e4 with e4
  injection e4 with e5 e6 _
  subst e5 e6
  refine ⟨_, _, rfl, fun _ => ⟨_, _, rfl, fun i hi => ?_⟩⟩
  have h0 := hc i hi
  refine (cell_block (hg.block g (World.block_lt_of_cell? Z ⟨g, 0 + i, none⟩ h0) fun ee => ?_) _).trans h0
  obtain ⟨c, fz, hk⟩ := h.own.kind g ee.symm
  have := lt_of_block hk
  omega
end
set_option maxRecDepth 100000 in
set_option maxHeartbeats 4000000 in
theorem text_sf {w : World} (b : Int) (b0 : 0 ≤ b) (b1 : b < 256) (pa da : Option Addr) (pc dc : Nat) : Calls Tryd.prog 21 #[.agg #[.int .u8 29, .int .i64 0, .int .u8 b, .bool false, .slice pa 0 pc, .slice da 0 dc]] w fun e w' => e = .returned (.string (strOfNums ([83, 70, 32] ++ hexL [b]))) ∧ Below w.heap.size w w' := by
  obtain ⟨W1, hW1⟩ : ∃ W1, W1 = w.alloc (.cells #[.int .u8 29, .int .i64 0, .int .u8 b, .bool false, .slice pa 0 pc, .slice da 0 dc] 35) := ⟨_, rfl⟩
  have hb := below_alloc w (.cells #[.int .u8 29, .int .i64 0, .int .u8 b, .bool false, .slice pa 0 pc, .slice da 0 dc] 35)
  have hnw := heap_alloc_new w (.cells #[.int .u8 29, .int .i64 0, .int .u8 b, .bool false, .slice pa 0 pc, .slice da 0 dc] 35)
  rw [← hW1] at hb hnw
  obtain ⟨ob, hob⟩ : ∃ ob, ob = w.heap.size := ⟨_, rfl⟩
  rw [← hob] at hnw
  obtain ⟨N, hN⟩ : ∃ N, N = nameB 29 := ⟨_, rfl⟩
  have hne : N.toList.isEmpty = false := by rw [hN]; decide +kernel
  have HNA : Hid (∀ w, Calls Tryd.prog 29 #[.int .u8 29] w fun e w' => e = .returned (.string N) ∧ w = w') := Lib.hid (by rw [hN]; exact name_any 29)
  have hown := conv_own W1 N (by rw [hN]; decide)
  have hL : strL N = [83, 70] := by rw [hN]; decide +kernel
  rw [hL] at hown
  have hcb := conv_below W1 N
  have hcr := conv_run W1 N
  have hsz : N.size = 2 := by rw [hN]; rfl
  rw [hsz] at hown hcr
  obtain ⟨W2, hW2⟩ : ∃ W2, W2 = Lib.bytesWorld W1 5 N := ⟨_, rfl⟩
  rw [← hW2] at hown hcb hcr
  obtain ⟨V2, hV2⟩ : ∃ V2, V2 = Value.slice (some ⟨W1.heap.size, 0, none⟩) 2 (grownCap W1 2 0 5) := ⟨_, rfl⟩
  rw [← hV2] at hown hcr
  have HQ : Hid (TQ w.heap.size ob #[.int .u8 29, .int .i64 0, .int .u8 b, .bool false, .slice pa 0 pc, .slice da 0 dc] w W2 V2 [83, 70]) := Lib.hid ⟨hown.lower hb.size, (hcb.block ob (lt_of_block hnw)).trans hnw, hb.trans (hcb.mono hb.size), by omega⟩
  have HW1 := Lib.hid hW1.symm
  have HO := Lib.hid hob.symm
  obtain ⟨c0, c1, c2, c3, c4, c5, _⟩ := cells6 hnw
  have HB0 := Lib.hid (And.intro b0 b1)
  have HA := Lib.hid (hasAddr_any 29)
  rw [show hasA 29 = false from rfl] at HA
  have HY := Lib.hid (hasByte_any 29)
  rw [show hasB 29 = true from rfl] at HY
  have HS := Lib.hid (Nat.le_refl w.heap.size)
  clear hb hnw hN hown hL hcb hsz hW1 hW2 hV2 hob
  go_enter Tryd.func21, Tryd.ntmps21
  go_upto_region 1 with fail
  rw [HW1.out, HO.out]
  go_wp2_with fail
  refine (HNA.out _).mono ?_
  rintro e w' ⟨rfl, rfl⟩
  go_wp2_with fail
  refine (HNA.out _).mono ?_
  rintro e w' ⟨rfl, rfl⟩
  go_upto_region 4 with fail
  clear c0 c1 c2 c3 c4 c5 hcr hne
  obtain ⟨c0, c1, c2, c3, c4, c5, _⟩ := cells6 HQ.out.box
  go_wp2_with fail
  refine (HA.out _).mono ?_
  rintro e w' ⟨rfl, rfl⟩
  go_wp2_with fail
  refine (HY.out _).mono ?_
  rintro e w' ⟨rfl, rfl⟩
  go_upto_region 9 with fail
  clear c0 c1 c3 c4 c5
  have c2d : W2.drew.cell? ⟨ob, 2, none⟩ = some (.int .u8 b) := c2
  have HC2 := Lib.hid c2d
  clear c2
  first
  | (go_region_held3 (fun Z => Z.cell? ⟨ob, 2, none⟩ = some (.int .u8 b))
      (with_reducible (first | assumption | exact (cells6 HQX.out.box).2.2.1 | exact (cells6 (HQ.out.alloc _).drew.box).2.2.1 | exact (cells6 ((HQ.out.alloc _).alloc _).drew.box).2.2.1 | exact (cells6 HQ9.out.box).2.2.1 | exact (cells6 (HQ9.out.alloc _).box).2.2.1))
      (first
        | (refine step_append_m (by rfl) _ _ (by rfl) (HQ.out.alloc _).drew.own (row_one8d _ _ _) ⟨_, _, _, rfl⟩ (by rfl) (by rfl) (by simp) (HQ.out.alloc _).drew.size ?_; intro v9 W9 hown hg; have HQ9 := Lib.hid ((HQ.out.alloc _).drew.grown hown hg); clear hown hg)
        | (refine step_append_m (by rfl) _ _ (by rfl) ((HQ.out.alloc _).alloc _).drew.own (row_2b _ _ _) ⟨_, _, _, rfl⟩ (by rfl) (by rfl) (by simp) ((HQ.out.alloc _).alloc _).drew.size ?_; intro v9 W9 hown hg; have HQ9 := Lib.hid (((HQ.out.alloc _).alloc _).drew.grown hown hg); have HR9 := Lib.hid (HQ.out.row_grown ((((Below.refl _ _).alloc (Nat.le_refl _) _).alloc (by simp) _).drew) hg (by omega) (row_2a _ _ b)); clear hown hg)
        | (refine step_append_m (by rfl) _ _ (by rfl) ((HQ.out.alloc _).alloc _).drew.own (row_2a _ _ _) ⟨_, _, _, rfl⟩ (by rfl) (by rfl) (by simp) ((HQ.out.alloc _).alloc _).drew.size ?_; intro v9 W9 hown hg; have HQ9 := Lib.hid (((HQ.out.alloc _).alloc _).drew.grown hown hg); have HR9 := Lib.hid (HQ.out.row_grown ((((Below.refl _ _).alloc (Nat.le_refl _) _).alloc (by simp) _).drew) hg (by omega) (row_2b _ _ b)); clear hown hg)
        | (go_at_call 33; first
            | (refine (sixteens_any HQ9.out.own HQ9.out.old HQ9.out.size (.inr ⟨HR9.out, by simp⟩) (by simp; exact HB0.out) (by simp)).mono ?_; rintro e W10 ⟨u, rfl, hu, hbb, hk⟩; have HQX := Lib.hid (HQ9.out.after hu hbb hk); clear hu hbb hk)
            | (refine (sixteens_any (HQ9.out.alloc _).own (HQ9.out.alloc _).old (HQ9.out.alloc _).size (.inr ⟨row_one8 _ _ _, by simp⟩) (by simp; exact HB0.out) (by simp)).mono ?_; rintro e W10 ⟨u, rfl, hu, hbb, hk⟩; have HQX := Lib.hid ((HQ9.out.alloc _).after hu hbb hk); clear hu hbb hk))))
  | fail
  all_goals
    obtain ⟨c0, c1, c2, c3, c4, c5, _⟩ := cells6 HQX.out.box
    have hstr := row_str HQX.out.own.row
    have HB := Lib.hid HQX.out.old
    clear HQ9 HC2 HQX
    go_upto_region 11 with fail
    go_loopw [3, 45] (fun t i wr => t = u ∧ i = .int .i64 0 ∧ wr = W10) (fun _ _ _ => 0)
    case atStart => exact ⟨rfl, rfl, rfl⟩
    case round =>
    obtain ⟨rfl, rfl, rfl⟩ := hrel
    go_wp2_with fail
    go_ret
    exact ⟨by first | rfl | simp, HB.out⟩
end Go.Proofs.YtjeknociobbhpaaDoor.Ord
