/-
  Contracts of Put, String and End of package typing.
-/
import Derived.Test.YtlcjiffnmpkndaaTyE
namespace Go.Proofs.Ytlcjiffnmpkndaa.Pl
open Go.RowKit Go.Shelf Base
set_option linter.unusedVariables false
set_option linter.unusedSimpArgs false

/-! ### What may be typed into a numeric field -/
def nmB (y : Int) : Bool := decide (240 ≤ y ∧ y ≤ 249) || (y == 75) || (y == 96) || (y == 28)
set_option maxHeartbeats 800000 in
theorem digit_any (y : Int) (w : World) : Calls Try.prog 118 #[.int .u8 y] w fun e W => e = .returned (.bool (decide (240 ≤ y ∧ y ≤ 249))) ∧ w = W := by
  by_cases h1 : 240 ≤ y <;> by_cases h2 : y ≤ 249 <;>
  · go_enter Try.func118, Try.ntmps118
    go_wp2
    go_ret
    exact ⟨by simp [h1, h2], rfl⟩
set_option maxHeartbeats 800000 in
theorem numeric_t (y : Int) (w : World) : Calls Try.prog 91 #[.int .u8 y] w fun e W => e = .returned (.bool (nmB y)) ∧ w = W := by
  unfold nmB
  cases h1 : decide (240 ≤ y ∧ y ≤ 249) <;> cases h2 : (y == 75) <;> cases h3 : (y == 96) <;> cases h4 : (y == 28) <;>
  · have HD := Lib.hid h1
    clear h1
    go_enter Try.func91, Try.ntmps91
    go_wp2_with (go_at_call 118; refine (digit_any y _).mono ?_; rintro e w1 ⟨he, rfl⟩; rw [HD.out] at he; subst he)
    go_ret
    exact ⟨by simp [h2, h3, h4], rfl⟩
/-! ### Bytes stay bytes -/
theorem atL_setT (L : List Cl) (p : Int) (x : Cl) (i : Int) : atL (setL L p x) i = if i = p ∧ 0 ≤ p ∧ p < L.length then x else atL L i := atL_setL L p x i
theorem bo_setT {L : List Cl} (h : BoL L) (p : Int) {x : Cl} (hx : 0 ≤ x.b ∧ x.b ≤ 255) : BoL (setL L p x) := by
  intro i
  rw [atL_setT]
  split
  · exact hx
  · exact h i
theorem bo_markT {L : List Cl} (h : BoL L) (a : Int) : BoL (markL L a) := by
  unfold markL
  split
  · exact h
  · unfold modL
    refine bo_setT h _ ?_
    have := h (befL L a)
    unfold modC Attr.modify
    simp only
    split <;> omega
theorem bo_mrS {L : List Cl} (h : BoL L) (a : Int) (pre : List Int) : BoL (mrS L a pre).1 ∧ 0 ≤ (mrS L a pre).2.b ∧ (mrS L a pre).2.b ≤ 255 :=
  snoc_indI (P := fun pre => BoL (mrS L a pre).1 ∧ 0 ≤ (mrS L a pre).2.b ∧ (mrS L a pre).2.b ≤ 255) ⟨h, h a⟩ (fun xs y hq => by
    rw [mrS_snoc]
    exact ⟨bo_setT hq.1 y hq.2, hq.1 y⟩) pre
theorem whole_k {L : List Cl} (h1 : 1 ≤ L.length) (h2 : L.length ≤ 4096) (a : Int) : (wholeF L a).k ≤ 9223372036854775807 := by
  unfold wholeF
  split
  · unfold ofF
    split
    · simp [fd0]
    · show mv L.length (aftL L (befL L a)) (-1 - befL L a) ≤ _
      rw [mv_pos (by omega)]
      have := Int.emod_lt_of_pos (aftL L (befL L a) + (-1 - befL L a)) (show (0 : Int) < L.length by omega)
      omega
  · show (L.length : Int) ≤ _
    omega
/-! ### Put -/
/-- Behind room: the cells. -/
def rmL (L : List Cl) (a : Int) (ins : Bool) : List Cl := if ins then (match fempL L a with | some e => roomL L a e | none => L) else L
def tyC (L1 : List Cl) (a y : Int) : Cl := ⟨y, false, false, (atL L1 a).li, (atL L1 a).co⟩
def ptL (L1 : List Cl) (a y : Int) : List Cl := markL (setL L1 a (tyC L1 a y)) a
/-- Behind a byte: the cells, the cursor, the error. -/
def putM (L : List Cl) (cur y : Int) (ins : Bool) : List Cl × Int × Int :=
  if opnL L cur = false then (L, cur, 41) else
  if (isF L cur && (Attr.nume (ofF L cur).a && !nmB y)) = true then (L, cur, 42) else
  if (ins && !(fempL L cur).isSome) = true then (L, cur, 43) else
  (ptL (rmL L cur ins) cur y, onL (ptL (rmL L cur ins) cur y) cur, 0)
theorem bo_rm {L : List Cl} (h : BoL L) (a : Int) (ins : Bool) : BoL (rmL L a ins) := by
  unfold rmL
  split
  · split
    · exact (bo_mrS h a _).1
    · exact h
  · exact h
theorem bo_pt {L : List Cl} (h : BoL L) (a y : Int) (hy : 0 ≤ y ∧ y ≤ 255) : BoL (ptL L a y) := bo_markT (bo_setT h a hy) a
theorem rm_len (L : List Cl) (a : Int) (ins : Bool) : (rmL L a ins).length = L.length := by
  unfold rmL
  split
  · split
    · exact mrS_len _ _ _
    · rfl
  · rfl
theorem mark_lenT (L : List Cl) (a : Int) : (markL L a).length = L.length := by
  unfold markL; split; rfl; exact setL_length _ _ _
theorem pt_len (L : List Cl) (a y : Int) : (ptL L a y).length = L.length := by unfold ptL; rw [mark_lenT, setL_length]
theorem put_len (L : List Cl) (cur y : Int) (ins : Bool) : (putM L cur y ins).1.length = L.length := by
  unfold putM
  split; rfl
  split; rfl
  split; rfl
  show (ptL _ _ _).length = _
  rw [pt_len, rm_len]
theorem bo_put {L : List Cl} (h : BoL L) (cur y : Int) (ins : Bool) (hy : 0 ≤ y ∧ y ≤ 255) : BoL (putM L cur y ins).1 := by
  unfold putM
  split; exact h
  split; exact h
  split; exact h
  exact bo_pt (bo_rm h cur ins) cur y hy
/-- The plane, and what was turned since. -/
structure TqQ (w : World) (b g : Nat) (r c z : Int) (M : List Cl) (W : World) : Prop where
  pl : PlAt W b g r c z M
  tn : Turn (Or2 (At b) (At g)) w W
section
variable {w W W' : World} {b g : Nat} {r c z z' : Int} {M M' : List Cl}
theorem TqQ.below (h : TqQ w b g r c z M W) (t : Below W.heap.size W W') : TqQ w b g r c z M W' := ⟨h.pl.below t, h.tn.trans (Turn.of_below t)⟩
theorem TqQ.tg (h : TqQ w b g r c z M W) (hp : PlAt W' b g r c z' M') (t : Turn (At g) W W') : TqQ w b g r c z' M' W' := ⟨hp, h.tn.trans (t.mono fun k hk => .inr hk)⟩
theorem TqQ.tb (h : TqQ w b g r c z M W) (hp : PlAt W' b g r c z' M') (t : Turn (At b) W W') : TqQ w b g r c z' M' W' := ⟨hp, h.tn.trans (t.mono fun k hk => .inl hk)⟩
end
/-- What Put, and what is like it, answers. -/
def PutP (w : World) (b g : Nat) (r c : Int) (R : List Cl × Int × Int) (e : Ending) (W : World) : Prop := e = .returned (.int .i64 R.2.2) ∧ TqQ w b g r c R.2.1 R.1 W
set_option maxRecDepth 100000 in
set_option maxHeartbeats 8000000 in
theorem put_any {w : World} {b g : Nat} {r c cur : Int} {L : List Cl} (h : PlAt w b g r c cur L) (hbo : BoL L) (y : Int) (hy : 0 ≤ y ∧ y ≤ 255) (ins : Bool) :
    Calls Try.prog 49 #[.pointer (some ⟨b, 0, none⟩), .int .u8 y, .bool ins] w (PutP w b g r c (putM L cur y ins)) := by
  have hm := h.most
  have hps := h.pos
  obtain ⟨R, hR⟩ : ∃ R, R = putM L cur y ins := ⟨_, rfl⟩
  rw [← hR]
  have HR := Lib.hid hR
  have HH := Lib.hid (show TqQ w b g r c cur L w from ⟨h, Turn.refl _ _⟩)
  have HBO := Lib.hid hbo
  have HK := Lib.hid (whole_k hps hm cur)
  obtain ⟨op, hop⟩ : ∃ op, op = opnL L cur := ⟨_, rfl⟩
  obtain ⟨iv, hiv⟩ : ∃ iv, iv = isF L cur := ⟨_, rfl⟩
  obtain ⟨⟨fs, fk, fa⟩, hf⟩ : ∃ f, f = ofF L cur := ⟨_, rfl⟩
  have hfa : 0 ≤ fa ∧ fa ≤ 255 := by
    have e : fa = (ofF L cur).a := by rw [← hf]
    rw [e]
    unfold ofF
    split
    · simp [fd0]
    · show 0 ≤ (atL L (befL L cur)).b % 64 ∧ (atL L (befL L cur)).b % 64 ≤ 255
      omega
  obtain ⟨q, hq⟩ : ∃ q, q = Attr.nume fa := ⟨_, rfl⟩
  obtain ⟨nm, hnm⟩ : ∃ nm, nm = nmB y := ⟨_, rfl⟩
  obtain ⟨fe, hfe⟩ : ∃ fe, fe = fempL L cur := ⟨_, rfl⟩
  have hRR : R = if op = false then (L, cur, 41) else if (iv && (q && !nm)) = true then (L, cur, 42) else if (ins && !fe.isSome) = true then (L, cur, 43) else (ptL (rmL L cur ins) cur y, onL (ptL (rmL L cur ins) cur y) cur, 0) := by
    rw [hR]; unfold putM; rw [← hop, ← hiv, ← hf, ← hq, ← hnm, ← hfe]
  have HRR := Lib.hid hRR
  have HOP := Lib.hid (show ∀ X, TqQ w b g r c cur L X → Calls Try.prog 37 #[.pointer (some ⟨b, 0, none⟩), .int .i64 cur] X fun e W => e = .returned (.bool op) ∧ Below X.heap.size X W from fun X hX => by rw [hop]; exact open_any hX.pl cur hbo)
  have HOF := Lib.hid (show ∀ X, TqQ w b g r c cur L X → Calls Try.prog 50 #[.pointer (some ⟨b, 0, none⟩), .int .i64 cur] X fun e W => e = .returned (.tuple #[.agg #[.int .i64 fs, .int .i64 fk, .int .u8 fa], .bool iv]) ∧ Below X.heap.size X W from fun X hX => by
    have := of_any hX.pl cur hbo
    rw [← hf, ← hiv] at this; exact this)
  have HQ := Lib.hid (show ∀ X, Calls Try.prog 90 #[.int .u8 fa] X fun e W => e = .returned (.bool q) ∧ X = W from fun X => by rw [hq]; exact Attr.numeric_any fa X hfa.1 hfa.2)
  have HN := Lib.hid (show ∀ X, Calls Try.prog 91 #[.int .u8 y] X fun e W => e = .returned (.bool nm) ∧ X = W from fun X => by rw [hnm]; exact numeric_t y X)
  have HRM := Lib.hid (show ∀ X, TqQ w b g r c cur L X → Calls Try.prog 92 #[.pointer (some ⟨b, 0, none⟩), .int .i64 cur] X fun e W => e = .returned (.bool fe.isSome) ∧ PlAt W b g r c cur (rmL L cur true) ∧ Turn (At g) X W from fun X hX => by rw [hfe]; exact room_any hX.pl hbo HK.out)
  have HFE := Lib.hid hfe
  clear h hbo hR hop hiv hf hq hnm hfe hRR
  cases op with
  | false =>
    go_enter Try.func49, Try.ntmps49
    go_wp2_with (first
      | (go_at_call 33; (with_reducible refine (cursor_any HH.out.pl).mono ?_); rintro e w1 ⟨rfl, rfl⟩)
      | (go_at_call 37; (with_reducible refine (HOP.out _ HH.out).mono ?_); rintro e w1 ⟨rfl, hb1⟩; have H1 := Lib.hid (HH.out.below hb1); clear hb1))
    go_ret
    rw [show R = (L, cur, 41) by rw [HRR.out]; rfl]
    exact ⟨rfl, H1.out⟩
  | true =>
    have hc : (iv = true ∧ q = true ∧ nm = false) ∨ iv = false ∨ (iv = true ∧ q = false) ∨ (iv = true ∧ q = true ∧ nm = true) := by cases iv <;> cases q <;> cases nm <;> simp
    rcases hc with ⟨rfl, rfl, rfl⟩ | hc
    · skip
      go_enter Try.func49, Try.ntmps49
      go_wp2_with (first
        | (go_at_call 33; (with_reducible refine (cursor_any HH.out.pl).mono ?_); rintro e w1 ⟨rfl, rfl⟩)
        | (go_at_call 37; (with_reducible refine (HOP.out _ HH.out).mono ?_); rintro e w1 ⟨rfl, hb1⟩; have H1 := Lib.hid (HH.out.below hb1); clear hb1)
        | (go_at_call 50; (with_reducible refine (HOF.out _ H1.out).mono ?_); rintro e w2 ⟨rfl, hb2⟩; have H2 := Lib.hid ((H1.out.below hb2).below (below_alloc w2 (.cells #[.int .i64 fs, .int .i64 fk, .int .u8 fa] 74))); clear hb2)
        | (go_at_call 90; (with_reducible refine (HQ.out _).mono ?_); rintro e w3 ⟨rfl, rfl⟩)
        | (go_at_call 91; (with_reducible refine (HN.out _).mono ?_); rintro e w4 ⟨rfl, rfl⟩))
      go_ret
      rw [show R = (L, cur, 42) by rw [HRR.out]; rfl]
      exact ⟨rfl, H2.out⟩
    rcases hc with rfl | ⟨rfl, rfl⟩ | ⟨rfl, rfl, rfl⟩
    · have HNR : Hid (fe = none → rmL L cur true = L) := Lib.hid (fun h => by have hf := HFE.out; unfold rmL; rw [if_pos rfl, ← hf, h])
      cases ins with
      | false =>
        obtain ⟨⟨yb, yg, ys, yl, yc⟩, hyy⟩ : ∃ z, z = atL L cur := ⟨_, rfl⟩
        obtain ⟨L2, hL2⟩ : ∃ L2, L2 = setL L cur ⟨y, false, false, yl, yc⟩ := ⟨_, rfl⟩
        obtain ⟨L3, hL3⟩ : ∃ L3, L3 = markL L2 cur := ⟨_, rfl⟩
        have hb1 : BoL L := HBO.out
        have hb2 : BoL L2 := by rw [hL2]; exact bo_setT hb1 _ hy
        have HB3 := Lib.hid (show BoL L3 by rw [hL3]; exact bo_markT hb2 _)
        have HB2 := Lib.hid hb2
        have hpt : ptL (rmL L cur false) cur y = L3 := by rw [hL3, hL2]; unfold ptL tyC; rw [show rmL L cur false = L from rfl, ← hyy]
        have HRF := Lib.hid (show R = (L3, onL L3 cur, 0) by rw [HRR.out, ← hpt]; simp)
        have HY := Lib.hid hyy
        have HL2 := Lib.hid hL2.symm
        have HL3 := Lib.hid hL3.symm
        clear hyy hL2 hL3 hb1 hb2 hpt
        go_enter Try.func49, Try.ntmps49
        go_wp2_with (first
          | (go_at_call 33; (with_reducible refine (cursor_any HH.out.pl).mono ?_); rintro e w1 ⟨rfl, rfl⟩)
          | (go_at_call 37; (with_reducible refine (HOP.out _ HH.out).mono ?_); rintro e w1 ⟨rfl, hb1⟩; have H1 := Lib.hid (HH.out.below hb1); clear hb1)
          | (go_at_call 50; (with_reducible refine (HOF.out _ H1.out).mono ?_); rintro e w2 ⟨rfl, hb2⟩; have H2 := Lib.hid ((H1.out.below hb2).below (below_alloc w2 (.cells #[.int .i64 fs, .int .i64 fk, .int .u8 fa] 74))); clear hb2)
          | (go_at_call 90; (with_reducible refine (HQ.out _).mono ?_); rintro e w3 ⟨rfl, rfl⟩)
          | (go_at_call 91; (with_reducible refine (HN.out _).mono ?_); rintro e w4 ⟨rfl, rfl⟩)
          | (go_at_call 40; (with_reducible refine (at_any H2.out.pl cur).mono ?_); rintro e w6 ⟨he, hb6⟩; rw [← HY.out] at he; simp only [Cl.val] at he; subst he; have H6 := Lib.hid ((H2.out.below hb6).below (below_alloc w6 (.cells #[.int .u8 yb, .bool yg, .bool ys, .int .u8 yl, .int .u8 yc] 58))); clear hb6)
          | (go_at_call 57; (with_reducible refine (set_any H6.out.pl cur ⟨y, false, false, yl, yc⟩).mono ?_); rw [HL2.out]; rintro e w7 ⟨rfl, hp, ht⟩; have H7 := Lib.hid (H6.out.tg hp ht); clear hp ht)
          | (go_at_call 93; (with_reducible refine (mark_any H7.out.pl cur HB2.out).mono ?_); rw [HL3.out]; rintro e w8 ⟨rfl, hp, ht⟩; have H8 := Lib.hid (H7.out.tg hp ht); clear hp ht)
          | (go_at_call 32; (with_reducible refine (on_any H8.out.pl HB3.out).mono ?_); rintro e w9 ⟨rfl, hp, ht⟩; have H9 := Lib.hid (H8.out.tb hp ht); clear hp ht))
        go_ret
        rw [HRF.out]
        exact ⟨rfl, H9.out⟩
      | true =>
        cases fe with
        | none =>
          have HRN : Hid (∀ X, TqQ w b g r c cur L X → Calls Try.prog 92 #[.pointer (some ⟨b, 0, none⟩), .int .i64 cur] X fun e W => e = .returned (.bool false) ∧ PlAt W b g r c cur L ∧ Turn (At g) X W) := Lib.hid (fun X hX => by
            have h1 := HRM.out X hX
            have h2 := HNR.out rfl
            simp only [h2] at h1
            exact h1)
          go_enter Try.func49, Try.ntmps49
          go_wp2_with (first
            | (go_at_call 33; (with_reducible refine (cursor_any HH.out.pl).mono ?_); rintro e w1 ⟨rfl, rfl⟩)
            | (go_at_call 37; (with_reducible refine (HOP.out _ HH.out).mono ?_); rintro e w1 ⟨rfl, hb1⟩; have H1 := Lib.hid (HH.out.below hb1); clear hb1)
            | (go_at_call 50; (with_reducible refine (HOF.out _ H1.out).mono ?_); rintro e w2 ⟨rfl, hb2⟩; have H2 := Lib.hid ((H1.out.below hb2).below (below_alloc w2 (.cells #[.int .i64 fs, .int .i64 fk, .int .u8 fa] 74))); clear hb2)
            | (go_at_call 90; (with_reducible refine (HQ.out _).mono ?_); rintro e w3 ⟨rfl, rfl⟩)
            | (go_at_call 91; (with_reducible refine (HN.out _).mono ?_); rintro e w4 ⟨rfl, rfl⟩)
            | (go_at_call 92; (with_reducible refine (HRN.out _ H2.out).mono ?_); rintro e w5 ⟨rfl, hp, ht⟩; have H5 := Lib.hid (H2.out.tg hp ht); clear hp ht))
          go_ret
          rw [show R = (L, cur, 43) by rw [HRR.out]; simp]
          exact ⟨rfl, H5.out⟩
        | some e0 =>
          obtain ⟨L1, hL1⟩ : ∃ L1, L1 = rmL L cur true := ⟨_, rfl⟩
          obtain ⟨⟨yb, yg, ys, yl, yc⟩, hyy⟩ : ∃ z, z = atL L1 cur := ⟨_, rfl⟩
          obtain ⟨L2, hL2⟩ : ∃ L2, L2 = setL L1 cur ⟨y, false, false, yl, yc⟩ := ⟨_, rfl⟩
          obtain ⟨L3, hL3⟩ : ∃ L3, L3 = markL L2 cur := ⟨_, rfl⟩
          have hb1 : BoL L1 := by rw [hL1]; exact bo_rm HBO.out _ _
          have hb2 : BoL L2 := by rw [hL2]; exact bo_setT hb1 _ hy
          have HB3 := Lib.hid (show BoL L3 by rw [hL3]; exact bo_markT hb2 _)
          have HB2 := Lib.hid hb2
          have hpt : ptL (rmL L cur true) cur y = L3 := by rw [hL3, hL2]; unfold ptL tyC; rw [← hL1, ← hyy]
          have HRF := Lib.hid (show R = (L3, onL L3 cur, 0) by rw [HRR.out, ← hpt]; simp)
          have HY := Lib.hid hyy
          have HL1 := Lib.hid hL1.symm
          have HL2 := Lib.hid hL2.symm
          have HL3 := Lib.hid hL3.symm
          clear hL1 hyy hL2 hL3 hb1 hb2 hpt
          go_enter Try.func49, Try.ntmps49
          go_wp2_with (first
            | (go_at_call 33; (with_reducible refine (cursor_any HH.out.pl).mono ?_); rintro e w1 ⟨rfl, rfl⟩)
            | (go_at_call 37; (with_reducible refine (HOP.out _ HH.out).mono ?_); rintro e w1 ⟨rfl, hb1⟩; have H1 := Lib.hid (HH.out.below hb1); clear hb1)
            | (go_at_call 50; (with_reducible refine (HOF.out _ H1.out).mono ?_); rintro e w2 ⟨rfl, hb2⟩; have H2 := Lib.hid ((H1.out.below hb2).below (below_alloc w2 (.cells #[.int .i64 fs, .int .i64 fk, .int .u8 fa] 74))); clear hb2)
            | (go_at_call 90; (with_reducible refine (HQ.out _).mono ?_); rintro e w3 ⟨rfl, rfl⟩)
            | (go_at_call 91; (with_reducible refine (HN.out _).mono ?_); rintro e w4 ⟨rfl, rfl⟩)
            | (go_at_call 92; (with_reducible refine (HRM.out _ H2.out).mono ?_); rw [HL1.out]; rintro e w5 ⟨rfl, hp, ht⟩; have H5 := Lib.hid (H2.out.tg hp ht); clear hp ht)
            | (go_at_call 40; (with_reducible refine (at_any H5.out.pl cur).mono ?_); rintro e w6 ⟨he, hb6⟩; rw [← HY.out] at he; simp only [Cl.val] at he; subst he; have H6 := Lib.hid ((H5.out.below hb6).below (below_alloc w6 (.cells #[.int .u8 yb, .bool yg, .bool ys, .int .u8 yl, .int .u8 yc] 58))); clear hb6)
            | (go_at_call 57; (with_reducible refine (set_any H6.out.pl cur ⟨y, false, false, yl, yc⟩).mono ?_); rw [HL2.out]; rintro e w7 ⟨rfl, hp, ht⟩; have H7 := Lib.hid (H6.out.tg hp ht); clear hp ht)
            | (go_at_call 93; (with_reducible refine (mark_any H7.out.pl cur HB2.out).mono ?_); rw [HL3.out]; rintro e w8 ⟨rfl, hp, ht⟩; have H8 := Lib.hid (H7.out.tg hp ht); clear hp ht)
            | (go_at_call 32; (with_reducible refine (on_any H8.out.pl HB3.out).mono ?_); rintro e w9 ⟨rfl, hp, ht⟩; have H9 := Lib.hid (H8.out.tb hp ht); clear hp ht))
          go_ret
          rw [HRF.out]
          exact ⟨rfl, H9.out⟩
    · have HNR : Hid (fe = none → rmL L cur true = L) := Lib.hid (fun h => by have hf := HFE.out; unfold rmL; rw [if_pos rfl, ← hf, h])
      cases ins with
      | false =>
        obtain ⟨⟨yb, yg, ys, yl, yc⟩, hyy⟩ : ∃ z, z = atL L cur := ⟨_, rfl⟩
        obtain ⟨L2, hL2⟩ : ∃ L2, L2 = setL L cur ⟨y, false, false, yl, yc⟩ := ⟨_, rfl⟩
        obtain ⟨L3, hL3⟩ : ∃ L3, L3 = markL L2 cur := ⟨_, rfl⟩
        have hb1 : BoL L := HBO.out
        have hb2 : BoL L2 := by rw [hL2]; exact bo_setT hb1 _ hy
        have HB3 := Lib.hid (show BoL L3 by rw [hL3]; exact bo_markT hb2 _)
        have HB2 := Lib.hid hb2
        have hpt : ptL (rmL L cur false) cur y = L3 := by rw [hL3, hL2]; unfold ptL tyC; rw [show rmL L cur false = L from rfl, ← hyy]
        have HRF := Lib.hid (show R = (L3, onL L3 cur, 0) by rw [HRR.out, ← hpt]; simp)
        have HY := Lib.hid hyy
        have HL2 := Lib.hid hL2.symm
        have HL3 := Lib.hid hL3.symm
        clear hyy hL2 hL3 hb1 hb2 hpt
        go_enter Try.func49, Try.ntmps49
        go_wp2_with (first
          | (go_at_call 33; (with_reducible refine (cursor_any HH.out.pl).mono ?_); rintro e w1 ⟨rfl, rfl⟩)
          | (go_at_call 37; (with_reducible refine (HOP.out _ HH.out).mono ?_); rintro e w1 ⟨rfl, hb1⟩; have H1 := Lib.hid (HH.out.below hb1); clear hb1)
          | (go_at_call 50; (with_reducible refine (HOF.out _ H1.out).mono ?_); rintro e w2 ⟨rfl, hb2⟩; have H2 := Lib.hid ((H1.out.below hb2).below (below_alloc w2 (.cells #[.int .i64 fs, .int .i64 fk, .int .u8 fa] 74))); clear hb2)
          | (go_at_call 90; (with_reducible refine (HQ.out _).mono ?_); rintro e w3 ⟨rfl, rfl⟩)
          | (go_at_call 91; (with_reducible refine (HN.out _).mono ?_); rintro e w4 ⟨rfl, rfl⟩)
          | (go_at_call 40; (with_reducible refine (at_any H2.out.pl cur).mono ?_); rintro e w6 ⟨he, hb6⟩; rw [← HY.out] at he; simp only [Cl.val] at he; subst he; have H6 := Lib.hid ((H2.out.below hb6).below (below_alloc w6 (.cells #[.int .u8 yb, .bool yg, .bool ys, .int .u8 yl, .int .u8 yc] 58))); clear hb6)
          | (go_at_call 57; (with_reducible refine (set_any H6.out.pl cur ⟨y, false, false, yl, yc⟩).mono ?_); rw [HL2.out]; rintro e w7 ⟨rfl, hp, ht⟩; have H7 := Lib.hid (H6.out.tg hp ht); clear hp ht)
          | (go_at_call 93; (with_reducible refine (mark_any H7.out.pl cur HB2.out).mono ?_); rw [HL3.out]; rintro e w8 ⟨rfl, hp, ht⟩; have H8 := Lib.hid (H7.out.tg hp ht); clear hp ht)
          | (go_at_call 32; (with_reducible refine (on_any H8.out.pl HB3.out).mono ?_); rintro e w9 ⟨rfl, hp, ht⟩; have H9 := Lib.hid (H8.out.tb hp ht); clear hp ht))
        go_ret
        rw [HRF.out]
        exact ⟨rfl, H9.out⟩
      | true =>
        cases fe with
        | none =>
          have HRN : Hid (∀ X, TqQ w b g r c cur L X → Calls Try.prog 92 #[.pointer (some ⟨b, 0, none⟩), .int .i64 cur] X fun e W => e = .returned (.bool false) ∧ PlAt W b g r c cur L ∧ Turn (At g) X W) := Lib.hid (fun X hX => by
            have h1 := HRM.out X hX
            have h2 := HNR.out rfl
            simp only [h2] at h1
            exact h1)
          go_enter Try.func49, Try.ntmps49
          go_wp2_with (first
            | (go_at_call 33; (with_reducible refine (cursor_any HH.out.pl).mono ?_); rintro e w1 ⟨rfl, rfl⟩)
            | (go_at_call 37; (with_reducible refine (HOP.out _ HH.out).mono ?_); rintro e w1 ⟨rfl, hb1⟩; have H1 := Lib.hid (HH.out.below hb1); clear hb1)
            | (go_at_call 50; (with_reducible refine (HOF.out _ H1.out).mono ?_); rintro e w2 ⟨rfl, hb2⟩; have H2 := Lib.hid ((H1.out.below hb2).below (below_alloc w2 (.cells #[.int .i64 fs, .int .i64 fk, .int .u8 fa] 74))); clear hb2)
            | (go_at_call 90; (with_reducible refine (HQ.out _).mono ?_); rintro e w3 ⟨rfl, rfl⟩)
            | (go_at_call 91; (with_reducible refine (HN.out _).mono ?_); rintro e w4 ⟨rfl, rfl⟩)
            | (go_at_call 92; (with_reducible refine (HRN.out _ H2.out).mono ?_); rintro e w5 ⟨rfl, hp, ht⟩; have H5 := Lib.hid (H2.out.tg hp ht); clear hp ht))
          go_ret
          rw [show R = (L, cur, 43) by rw [HRR.out]; simp]
          exact ⟨rfl, H5.out⟩
        | some e0 =>
          obtain ⟨L1, hL1⟩ : ∃ L1, L1 = rmL L cur true := ⟨_, rfl⟩
          obtain ⟨⟨yb, yg, ys, yl, yc⟩, hyy⟩ : ∃ z, z = atL L1 cur := ⟨_, rfl⟩
          obtain ⟨L2, hL2⟩ : ∃ L2, L2 = setL L1 cur ⟨y, false, false, yl, yc⟩ := ⟨_, rfl⟩
          obtain ⟨L3, hL3⟩ : ∃ L3, L3 = markL L2 cur := ⟨_, rfl⟩
          have hb1 : BoL L1 := by rw [hL1]; exact bo_rm HBO.out _ _
          have hb2 : BoL L2 := by rw [hL2]; exact bo_setT hb1 _ hy
          have HB3 := Lib.hid (show BoL L3 by rw [hL3]; exact bo_markT hb2 _)
          have HB2 := Lib.hid hb2
          have hpt : ptL (rmL L cur true) cur y = L3 := by rw [hL3, hL2]; unfold ptL tyC; rw [← hL1, ← hyy]
          have HRF := Lib.hid (show R = (L3, onL L3 cur, 0) by rw [HRR.out, ← hpt]; simp)
          have HY := Lib.hid hyy
          have HL1 := Lib.hid hL1.symm
          have HL2 := Lib.hid hL2.symm
          have HL3 := Lib.hid hL3.symm
          clear hL1 hyy hL2 hL3 hb1 hb2 hpt
          go_enter Try.func49, Try.ntmps49
          go_wp2_with (first
            | (go_at_call 33; (with_reducible refine (cursor_any HH.out.pl).mono ?_); rintro e w1 ⟨rfl, rfl⟩)
            | (go_at_call 37; (with_reducible refine (HOP.out _ HH.out).mono ?_); rintro e w1 ⟨rfl, hb1⟩; have H1 := Lib.hid (HH.out.below hb1); clear hb1)
            | (go_at_call 50; (with_reducible refine (HOF.out _ H1.out).mono ?_); rintro e w2 ⟨rfl, hb2⟩; have H2 := Lib.hid ((H1.out.below hb2).below (below_alloc w2 (.cells #[.int .i64 fs, .int .i64 fk, .int .u8 fa] 74))); clear hb2)
            | (go_at_call 90; (with_reducible refine (HQ.out _).mono ?_); rintro e w3 ⟨rfl, rfl⟩)
            | (go_at_call 91; (with_reducible refine (HN.out _).mono ?_); rintro e w4 ⟨rfl, rfl⟩)
            | (go_at_call 92; (with_reducible refine (HRM.out _ H2.out).mono ?_); rw [HL1.out]; rintro e w5 ⟨rfl, hp, ht⟩; have H5 := Lib.hid (H2.out.tg hp ht); clear hp ht)
            | (go_at_call 40; (with_reducible refine (at_any H5.out.pl cur).mono ?_); rintro e w6 ⟨he, hb6⟩; rw [← HY.out] at he; simp only [Cl.val] at he; subst he; have H6 := Lib.hid ((H5.out.below hb6).below (below_alloc w6 (.cells #[.int .u8 yb, .bool yg, .bool ys, .int .u8 yl, .int .u8 yc] 58))); clear hb6)
            | (go_at_call 57; (with_reducible refine (set_any H6.out.pl cur ⟨y, false, false, yl, yc⟩).mono ?_); rw [HL2.out]; rintro e w7 ⟨rfl, hp, ht⟩; have H7 := Lib.hid (H6.out.tg hp ht); clear hp ht)
            | (go_at_call 93; (with_reducible refine (mark_any H7.out.pl cur HB2.out).mono ?_); rw [HL3.out]; rintro e w8 ⟨rfl, hp, ht⟩; have H8 := Lib.hid (H7.out.tg hp ht); clear hp ht)
            | (go_at_call 32; (with_reducible refine (on_any H8.out.pl HB3.out).mono ?_); rintro e w9 ⟨rfl, hp, ht⟩; have H9 := Lib.hid (H8.out.tb hp ht); clear hp ht))
          go_ret
          rw [HRF.out]
          exact ⟨rfl, H9.out⟩
    · have HNR : Hid (fe = none → rmL L cur true = L) := Lib.hid (fun h => by have hf := HFE.out; unfold rmL; rw [if_pos rfl, ← hf, h])
      cases ins with
      | false =>
        obtain ⟨⟨yb, yg, ys, yl, yc⟩, hyy⟩ : ∃ z, z = atL L cur := ⟨_, rfl⟩
        obtain ⟨L2, hL2⟩ : ∃ L2, L2 = setL L cur ⟨y, false, false, yl, yc⟩ := ⟨_, rfl⟩
        obtain ⟨L3, hL3⟩ : ∃ L3, L3 = markL L2 cur := ⟨_, rfl⟩
        have hb1 : BoL L := HBO.out
        have hb2 : BoL L2 := by rw [hL2]; exact bo_setT hb1 _ hy
        have HB3 := Lib.hid (show BoL L3 by rw [hL3]; exact bo_markT hb2 _)
        have HB2 := Lib.hid hb2
        have hpt : ptL (rmL L cur false) cur y = L3 := by rw [hL3, hL2]; unfold ptL tyC; rw [show rmL L cur false = L from rfl, ← hyy]
        have HRF := Lib.hid (show R = (L3, onL L3 cur, 0) by rw [HRR.out, ← hpt]; simp)
        have HY := Lib.hid hyy
        have HL2 := Lib.hid hL2.symm
        have HL3 := Lib.hid hL3.symm
        clear hyy hL2 hL3 hb1 hb2 hpt
        go_enter Try.func49, Try.ntmps49
        go_wp2_with (first
          | (go_at_call 33; (with_reducible refine (cursor_any HH.out.pl).mono ?_); rintro e w1 ⟨rfl, rfl⟩)
          | (go_at_call 37; (with_reducible refine (HOP.out _ HH.out).mono ?_); rintro e w1 ⟨rfl, hb1⟩; have H1 := Lib.hid (HH.out.below hb1); clear hb1)
          | (go_at_call 50; (with_reducible refine (HOF.out _ H1.out).mono ?_); rintro e w2 ⟨rfl, hb2⟩; have H2 := Lib.hid ((H1.out.below hb2).below (below_alloc w2 (.cells #[.int .i64 fs, .int .i64 fk, .int .u8 fa] 74))); clear hb2)
          | (go_at_call 90; (with_reducible refine (HQ.out _).mono ?_); rintro e w3 ⟨rfl, rfl⟩)
          | (go_at_call 91; (with_reducible refine (HN.out _).mono ?_); rintro e w4 ⟨rfl, rfl⟩)
          | (go_at_call 40; (with_reducible refine (at_any H2.out.pl cur).mono ?_); rintro e w6 ⟨he, hb6⟩; rw [← HY.out] at he; simp only [Cl.val] at he; subst he; have H6 := Lib.hid ((H2.out.below hb6).below (below_alloc w6 (.cells #[.int .u8 yb, .bool yg, .bool ys, .int .u8 yl, .int .u8 yc] 58))); clear hb6)
          | (go_at_call 57; (with_reducible refine (set_any H6.out.pl cur ⟨y, false, false, yl, yc⟩).mono ?_); rw [HL2.out]; rintro e w7 ⟨rfl, hp, ht⟩; have H7 := Lib.hid (H6.out.tg hp ht); clear hp ht)
          | (go_at_call 93; (with_reducible refine (mark_any H7.out.pl cur HB2.out).mono ?_); rw [HL3.out]; rintro e w8 ⟨rfl, hp, ht⟩; have H8 := Lib.hid (H7.out.tg hp ht); clear hp ht)
          | (go_at_call 32; (with_reducible refine (on_any H8.out.pl HB3.out).mono ?_); rintro e w9 ⟨rfl, hp, ht⟩; have H9 := Lib.hid (H8.out.tb hp ht); clear hp ht))
        go_ret
        rw [HRF.out]
        exact ⟨rfl, H9.out⟩
      | true =>
        cases fe with
        | none =>
          have HRN : Hid (∀ X, TqQ w b g r c cur L X → Calls Try.prog 92 #[.pointer (some ⟨b, 0, none⟩), .int .i64 cur] X fun e W => e = .returned (.bool false) ∧ PlAt W b g r c cur L ∧ Turn (At g) X W) := Lib.hid (fun X hX => by
            have h1 := HRM.out X hX
            have h2 := HNR.out rfl
            simp only [h2] at h1
            exact h1)
          go_enter Try.func49, Try.ntmps49
          go_wp2_with (first
            | (go_at_call 33; (with_reducible refine (cursor_any HH.out.pl).mono ?_); rintro e w1 ⟨rfl, rfl⟩)
            | (go_at_call 37; (with_reducible refine (HOP.out _ HH.out).mono ?_); rintro e w1 ⟨rfl, hb1⟩; have H1 := Lib.hid (HH.out.below hb1); clear hb1)
            | (go_at_call 50; (with_reducible refine (HOF.out _ H1.out).mono ?_); rintro e w2 ⟨rfl, hb2⟩; have H2 := Lib.hid ((H1.out.below hb2).below (below_alloc w2 (.cells #[.int .i64 fs, .int .i64 fk, .int .u8 fa] 74))); clear hb2)
            | (go_at_call 90; (with_reducible refine (HQ.out _).mono ?_); rintro e w3 ⟨rfl, rfl⟩)
            | (go_at_call 91; (with_reducible refine (HN.out _).mono ?_); rintro e w4 ⟨rfl, rfl⟩)
            | (go_at_call 92; (with_reducible refine (HRN.out _ H2.out).mono ?_); rintro e w5 ⟨rfl, hp, ht⟩; have H5 := Lib.hid (H2.out.tg hp ht); clear hp ht))
          go_ret
          rw [show R = (L, cur, 43) by rw [HRR.out]; simp]
          exact ⟨rfl, H5.out⟩
        | some e0 =>
          obtain ⟨L1, hL1⟩ : ∃ L1, L1 = rmL L cur true := ⟨_, rfl⟩
          obtain ⟨⟨yb, yg, ys, yl, yc⟩, hyy⟩ : ∃ z, z = atL L1 cur := ⟨_, rfl⟩
          obtain ⟨L2, hL2⟩ : ∃ L2, L2 = setL L1 cur ⟨y, false, false, yl, yc⟩ := ⟨_, rfl⟩
          obtain ⟨L3, hL3⟩ : ∃ L3, L3 = markL L2 cur := ⟨_, rfl⟩
          have hb1 : BoL L1 := by rw [hL1]; exact bo_rm HBO.out _ _
          have hb2 : BoL L2 := by rw [hL2]; exact bo_setT hb1 _ hy
          have HB3 := Lib.hid (show BoL L3 by rw [hL3]; exact bo_markT hb2 _)
          have HB2 := Lib.hid hb2
          have hpt : ptL (rmL L cur true) cur y = L3 := by rw [hL3, hL2]; unfold ptL tyC; rw [← hL1, ← hyy]
          have HRF := Lib.hid (show R = (L3, onL L3 cur, 0) by rw [HRR.out, ← hpt]; simp)
          have HY := Lib.hid hyy
          have HL1 := Lib.hid hL1.symm
          have HL2 := Lib.hid hL2.symm
          have HL3 := Lib.hid hL3.symm
          clear hL1 hyy hL2 hL3 hb1 hb2 hpt
          go_enter Try.func49, Try.ntmps49
          go_wp2_with (first
            | (go_at_call 33; (with_reducible refine (cursor_any HH.out.pl).mono ?_); rintro e w1 ⟨rfl, rfl⟩)
            | (go_at_call 37; (with_reducible refine (HOP.out _ HH.out).mono ?_); rintro e w1 ⟨rfl, hb1⟩; have H1 := Lib.hid (HH.out.below hb1); clear hb1)
            | (go_at_call 50; (with_reducible refine (HOF.out _ H1.out).mono ?_); rintro e w2 ⟨rfl, hb2⟩; have H2 := Lib.hid ((H1.out.below hb2).below (below_alloc w2 (.cells #[.int .i64 fs, .int .i64 fk, .int .u8 fa] 74))); clear hb2)
            | (go_at_call 90; (with_reducible refine (HQ.out _).mono ?_); rintro e w3 ⟨rfl, rfl⟩)
            | (go_at_call 91; (with_reducible refine (HN.out _).mono ?_); rintro e w4 ⟨rfl, rfl⟩)
            | (go_at_call 92; (with_reducible refine (HRM.out _ H2.out).mono ?_); rw [HL1.out]; rintro e w5 ⟨rfl, hp, ht⟩; have H5 := Lib.hid (H2.out.tg hp ht); clear hp ht)
            | (go_at_call 40; (with_reducible refine (at_any H5.out.pl cur).mono ?_); rintro e w6 ⟨he, hb6⟩; rw [← HY.out] at he; simp only [Cl.val] at he; subst he; have H6 := Lib.hid ((H5.out.below hb6).below (below_alloc w6 (.cells #[.int .u8 yb, .bool yg, .bool ys, .int .u8 yl, .int .u8 yc] 58))); clear hb6)
            | (go_at_call 57; (with_reducible refine (set_any H6.out.pl cur ⟨y, false, false, yl, yc⟩).mono ?_); rw [HL2.out]; rintro e w7 ⟨rfl, hp, ht⟩; have H7 := Lib.hid (H6.out.tg hp ht); clear hp ht)
            | (go_at_call 93; (with_reducible refine (mark_any H7.out.pl cur HB2.out).mono ?_); rw [HL3.out]; rintro e w8 ⟨rfl, hp, ht⟩; have H8 := Lib.hid (H7.out.tg hp ht); clear hp ht)
            | (go_at_call 32; (with_reducible refine (on_any H8.out.pl HB3.out).mono ?_); rintro e w9 ⟨rfl, hp, ht⟩; have H9 := Lib.hid (H8.out.tb hp ht); clear hp ht))
          go_ret
          rw [HRF.out]
          exact ⟨rfl, H9.out⟩
end Go.Proofs.Ytlcjiffnmpkndaa.Pl
