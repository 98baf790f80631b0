/-
  What a talk says when an event comes.
-/
import Derived.Test.YtimidoaafllnkaaTalkC
import Derived.Test.YtimidoaafllnkaaIacT
import Derived.Lib.AppendStr
namespace Go.Proofs.Ytimidoaafllnkaa.Talk
open Go.RowKit Base Opt
set_option linter.unusedVariables false

/-- Does an event ask for the name? -/
def asks (k o : Int) (L : List Int) : Bool := decide (k = 5 ∧ o = 24 ∧ L = [1])
set_option maxRecDepth 100000 in
set_option maxHeartbeats 4000000 in
theorem asks_any (k c o : Int) (v : Value) (L : List Int) (w : World) (hr : RowOf .u8 w v L) :
    Calls Try.prog 73 #[.agg #[.int .i64 k, .int .u8 c, .int .u8 o, v]] w fun e w' => e = .returned (.bool (asks k o L)) ∧ Below w.heap.size w w' := by
  obtain ⟨a, cap, rfl, hc⟩ := hr
  have HC := Lib.hid hc
  clear hc
  obtain ⟨n, hn⟩ : ∃ n, n = L.length := ⟨_, rfl⟩
  have HN := Lib.hid hn
  rw [← hn]
  clear hn
  have hb := below_alloc w (.cells #[.int .i64 k, .int .u8 c, .int .u8 o, .slice a n cap] 26)
  have HB := Lib.hid hb
  clear hb
  by_cases h1 : k = 5
  · by_cases h2 : o = 24
    · by_cases h3 : n = 1
      · obtain ⟨x, hx⟩ : ∃ x, L = [x] := List.length_eq_one_iff.1 (by rw [← HN.out]; exact h3)
        obtain ⟨g, off, rfl, hcell⟩ := HC.out (by rw [hx]; simp)
        have d := hcell 0 (by rw [hx]; simp)
        rw [hx] at d
        have d : w.cell? ⟨g, off, none⟩ = some (.int .u8 x) := d
        have hlt := World.block_lt_of_cell? w ⟨g, off, none⟩ d
        have hlt : g < w.heap.size := hlt
        have hx1 : x = 1 ∨ (x == 1) = false := by simp; omega
        have HX := Lib.hid hx
        subst h1 h2 h3
        clear hx hcell
        rcases hx1 with rfl | hx1
        all_goals
          go_enter Try.func73, Try.ntmps73
          go_wp2
          go_ret
          first
          | exact ⟨ret_bool (by rw [HX.out]; rfl), HB.out⟩
          | exact ⟨ret_bool (by rw [HX.out]; simp at hx1; simp [asks, hx1]), HB.out⟩
      · have h3' : ((n : Int) == 1) = false := by simp; omega
        have hL : ¬ L = [1] := by intro e; rw [e] at HN; exact h3 HN.out
        have HL := Lib.hid hL
        subst h1 h2
        clear h3 hL
        go_enter Try.func73, Try.ntmps73
        go_wp2
        go_ret
        exact ⟨ret_bool (by simp [asks, HL.out]), HB.out⟩
    · have h2' : (o == 24) = false := by simpa using h2
      have H2 := Lib.hid h2
      subst h1
      clear h2
      go_enter Try.func73, Try.ntmps73
      go_wp2
      go_ret
      exact ⟨ret_bool (by simp [asks, H2.out]), HB.out⟩
  · have h1' : (k == 5) = false := by simpa using h1
    have H1 := Lib.hid h1
    clear h1
    go_enter Try.func73, Try.ntmps73
    go_wp2
    go_ret
    exact ⟨ret_bool (by simp [asks, H1.out]), HB.out⟩
/-- What a talk says: its options behind an event, whether the name was told, the bytes. -/
def takeR (nm : ByteArray) (M : Nat → Bool) (S : Nat → Nat) (nd : Bool) (k c : Int) (o : Nat) (L : List Int) : (Nat → Nat) × Bool × List Int :=
  if k = 4 then ((gotS M S c o).1, nd && typeOn S, (gotS M S c o).2)
  else if (asks k o L && typeOn S) = true then (S, true, Iac.tellL 24 (0 :: nums nm)) else (S, nd && typeOn S, [])
def TakeK (b : Nat) (nm : ByteArray) (M : Nat → Bool) (R : (Nat → Nat) × Bool × List Int) (w : World) (e : Ending) (w' : World) : Prop :=
  ∃ v, e = .returned v ∧ RowIn (fun k => w.heap.size ≤ k) .u8 w' v R.2.2 ∧ TalkAt w' b nm M R.1 R.2.1 ∧ Turn (At b) w w'
section
variable {w : World} {b : Nat} {nm : ByteArray} {M : Nat → Bool} {S : Nat → Nat} {nd : Bool}
theorem TalkAt.noByte (h : TalkAt w b nm M S nd) (o : Nat) (k : Int) : w.cell? ⟨b, o, none⟩ ≠ some (.int .u8 k) := by
  rw [h.cell]
  intro e
  split at e
  · cases e
  · split at e
    · unfold cellOf at e
      split at e <;> cases e
    · split at e <;> cases e
theorem TalkAt.apart (h : TalkAt w b nm M S nd) {v : Value} {L : List Int} (hr : RowOf .u8 w v L) : RowIn (fun k => k ≠ b) .u8 w v L := by
  obtain ⟨a, cap, rfl, hc⟩ := hr
  refine ⟨a, cap, rfl, fun hne => ?_⟩
  obtain ⟨g, off, rfl, hi⟩ := hc hne
  have h0 := hi 0 (List.length_pos_iff.2 hne)
  exact ⟨g, off, rfl, fun e => by subst e; exact h.noByte _ _ h0, World.block_lt_of_cell? w ⟨g, off + 0, none⟩ h0, hi⟩
/-- An event in its box at e0, and the talk. -/
structure TkQ (b e0 : Nat) (nm : ByteArray) (M : Nat → Bool) (S : Nat → Nat) (nd : Bool) (E : Array Value) (w W : World) : Prop where
  tk : TalkAt W b nm M S nd
  box : W.heap[e0]? = some (.cells E 26 (0, 0))
  old : Turn (At b) w W
theorem TkQ.drew {e0 : Nat} {E : Array Value} {W : World} (h : TkQ b e0 nm M S nd E w W) : TkQ b e0 nm M S nd E w W.drew := ⟨h.tk, h.box, h.old.drew⟩
def BoxQ (e0 : Nat) (E : Array Value) (W : World) : Prop := W.heap[e0]? = some (.cells E 26 (0, 0))
theorem TkQ.bx {e0 : Nat} {E : Array Value} {W : World} (h : TkQ b e0 nm M S nd E w W) : BoxQ e0 E W := h.box
theorem BoxQ.drew {e0 : Nat} {E : Array Value} {W : World} (h : BoxQ e0 E W) : BoxQ e0 E W.drew := h
theorem BoxQ.s2 {e0 : Nat} {k c o : Int} {v : Value} {W : World} (h : BoxQ e0 #[.int .i64 k, .int .u8 c, .int .u8 o, v] W) :
    W.cell? ⟨e0, 1, none⟩ = some (.int .u8 c) ∧ W.cell? ⟨e0, 2, none⟩ = some (.int .u8 o) ∧ BoxQ e0 #[.int .i64 k, .int .u8 c, .int .u8 o, v] W := by
  have hb : W.heap[e0]? = _ := h
  exact ⟨by simp [World.cell?, hb], by simp [World.cell?, hb], h⟩
theorem new1_own (w : World) (a : Int) : OwnBytes w.heap.size (w.alloc (.cells #[.int .u8 a] 5)) (.slice (some ⟨w.heap.size, 0, none⟩) 1 1) [a] :=
  ⟨rfl, .inr ⟨w.heap.size, 1, #[.int .u8 a], rfl, Nat.le_refl _, heap_alloc_new w _, by simp, by simp [maxLen], by simp, by simp⟩⟩
theorem own_strCells {base : Nat} {w : World} {v : Value} {a : Int} {nm : ByteArray} (h : w.ownsRow base 5 1 v (1 + nm.size) ([Value.int .u8 a] ++ Lib.strCells nm)) : OwnBytes base w v (a :: nums nm) := by
  have e1 : (a :: nums nm).map (Value.int .u8) = [Value.int .u8 a] ++ Lib.strCells nm := by
    unfold nums Lib.strCells
    simp [List.map_map, Function.comp_def]
  have e2 : (a :: nums nm).length = 1 + nm.size := by rw [List.length_cons, nums_length]; omega
  unfold OwnBytes
  rw [e1, e2]
  exact h
set_option maxRecDepth 100000 in
set_option maxHeartbeats 4000000 in
theorem take_any (k c : Int) (o : Nat) (ho : o < 256) (v : Value) (L : List Int) (hr : RowOf .u8 w v L) (h : TalkAt w b nm M S nd) (hs : Le5 S) (hnm : nm.size ≤ 1000) :
    Calls Try.prog 27 #[.pointer (some ⟨b, 0, none⟩), .agg #[.int .i64 k, .int .u8 c, .int .u8 o, v]] w (TakeK b nm M (takeR nm M S nd k c o L) w) := by
  have hro := hr
  obtain ⟨a, cap, rfl, hrc⟩ := hr
  obtain ⟨n, hn⟩ : ∃ n, n = L.length := ⟨_, rfl⟩
  rw [← hn] at hro ⊢
  have hb0 := below_alloc w (.cells #[.int .i64 k, .int .u8 c, .int .u8 o, .slice a n cap] 26)
  have hn0 := heap_alloc_new w (.cells #[.int .i64 k, .int .u8 c, .int .u8 o, .slice a n cap] 26)
  obtain ⟨W0, hW0⟩ : ∃ W0, W0 = w.alloc (.cells #[.int .i64 k, .int .u8 c, .int .u8 o, .slice a n cap] 26) := ⟨_, rfl⟩
  obtain ⟨e0, he0⟩ : ∃ e0, e0 = w.heap.size := ⟨_, rfl⟩
  rw [← hW0] at hb0 hn0
  rw [← he0] at hn0
  have hbe : b ≠ e0 := by have := h.lt; omega
  have HROW := Lib.hid ((h.apart hro).below hb0)
  have HBOX := Lib.hid hn0
  have HB0 := Lib.hid hb0
  have HF := Lib.hid (forget_any (h.below hb0))
  have HW0 := Lib.hid hW0.symm
  have HE0 := Lib.hid he0.symm
  have HS := Lib.hid hs
  clear hro hrc hn hb0 hn0 hW0 he0 h hs
  have HTQ : Hid (∀ W1 : World, TalkAt W1 b nm M S (nd && typeOn S) → Turn (At b) W0 W1 → TkQ b e0 nm M S (nd && typeOn S) #[.int .i64 k, .int .u8 c, .int .u8 o, .slice a n cap] w W1 ∧ RowIn (fun k => k ≠ b) .u8 W1 (.slice a n cap) L) := Lib.hid fun W1 h1 t1 =>
    ⟨⟨h1, (t1.block e0 (lt_of_block HBOX.out) (fun e => hbe e.symm)).trans HBOX.out, (Turn.of_below HB0.out).trans t1⟩, HROW.out.turn t1 fun k hk => hk⟩
  by_cases h4 : k = 4
  · subst h4
    rw [show takeR nm M S nd 4 c o L = ((gotS M S c o).1, nd && typeOn S, (gotS M S c o).2) from if_pos rfl]
    go_enter Try.func27, Try.ntmps27
    go_upto_region 1 with fail
    rw [HW0.out, HE0.out]
    go_wp2_with fail
    refine HF.out.mono ?_
    rintro e W1 ⟨rfl, h1, t1⟩
    have HQ := Lib.hid (HTQ.out W1 h1 t1).1
    have hbx := HQ.out.box
    have c0 : W1.cell? ⟨e0, 0, none⟩ = some (.int .i64 4) := by simp [World.cell?, hbx]
    clear h1 t1 hbx
    go_upto_region 4 with fail
    first
    | (go_region_held3 (fun W => W.cell? ⟨e0, 1, none⟩ = some (.int .u8 c) ∧ W.cell? ⟨e0, 2, none⟩ = some (.int .u8 o) ∧ BoxQ e0 #[.int .i64 4, .int .u8 c, .int .u8 o, .slice a n cap] W)
        (with_reducible (first | assumption | exact BoxQ.s2 HQ.out.bx | exact BoxQ.s2 HQ.out.drew.bx | exact BoxQ.s2 HX2.out | exact BoxQ.s2 (BoxQ.drew HX2.out)))
        (first
          | (go_at_call 72; (with_reducible refine (got_talk c o ho HQ.out.drew.tk HS.out).mono ?_); rintro e2 w2 ⟨v2, rfl, hr2, h2, t2⟩; have HX2 : Hid (BoxQ e0 #[.int .i64 4, .int .u8 c, .int .u8 o, .slice a n cap] w2) := Lib.hid ((t2.block e0 (lt_of_block HQ.out.drew.box) (fun e => hbe e.symm)).trans HQ.out.drew.box); have HR2 := Lib.hid hr2; have HT2 := Lib.hid h2; have HU2 := Lib.hid (HQ.out.old.drew.trans t2); have HZ2 : Hid (w.heap.size ≤ W1.drew.heap.size) := Lib.hid HQ.out.old.size; clear hr2 h2 t2)))
    | fail
    all_goals
      go_wp2
      go_ret
      first
      | exact ⟨_, rfl, HR2.out.mono fun k hk => Nat.le_trans HZ2.out hk, HT2.out, HU2.out⟩
      | exact ⟨_, rfl, (HR2.out.mono fun k hk => Nat.le_trans HZ2.out hk).below (below_drewN (Below.refl _ _) _), HT2.out.drewN _, HU2.out.drewN _⟩
  · have h4' : (k == 4) = false := by simpa using h4
    have hRT : takeR nm M S nd k c o L = if (asks k o L && typeOn S) = true then (S, true, Iac.tellL 24 (0 :: nums nm)) else (S, nd && typeOn S, []) := if_neg h4
    rw [hRT]
    have HAS : Hid (∀ W1 : World, RowOf .u8 W1 (.slice a n cap) L → Calls Try.prog 73 #[.agg #[.int .i64 k, .int .u8 c, .int .u8 o, .slice a n cap]] W1 fun e w' => e = .returned (.bool (asks k o L)) ∧ Below W1.heap.size W1 w') := Lib.hid fun W1 h => asks_any k c o _ L W1 h
    have HON : Hid (∀ W1 : World, TalkAt W1 b nm M S (nd && typeOn S) → Calls Try.prog 74 #[.pointer (some ⟨b, 1, none⟩), .bool true, .int .u8 24] W1 fun e w' => e = .returned (.bool (typeOn S)) ∧ W1 = w') := Lib.hid fun W1 h => on_talk true 24 (by omega) h
    generalize asks k o L = A at HAS ⊢
    generalize hT : typeOn S = T at HON HF HTQ ⊢
    obtain ⟨R, hR⟩ : ∃ R : (Nat → Nat) × Bool × List Int, R = if (A && T) = true then (S, true, Iac.tellL 24 (0 :: nums nm)) else (S, nd && T, []) := ⟨_, rfl⟩
    rw [← hR]
    have HRR := Lib.hid hR
    clear h4 hRT hR
    have START : ∀ W1 : World, TkQ b e0 nm M S (nd && T) #[.int .i64 k, .int .u8 c, .int .u8 o, .slice a n cap] w W1 → W1.cell? ⟨e0, 0, none⟩ = some (.int .i64 k) ∧ W1.cell? ⟨e0, 1, none⟩ = some (.int .u8 c) ∧ W1.cell? ⟨e0, 2, none⟩ = some (.int .u8 o) ∧ W1.cell? ⟨e0, 3, none⟩ = some (.slice a n cap) := fun W1 h => by
      have hb := h.box
      exact ⟨by simp [World.cell?, hb], by simp [World.cell?, hb], by simp [World.cell?, hb], by simp [World.cell?, hb]⟩
    have HST := Lib.hid START
    clear START
    go_enter Try.func27, Try.ntmps27
    go_upto_region 1 with fail
    rw [HW0.out, HE0.out]
    go_wp2_with fail
    refine HF.out.mono ?_
    rintro e W1 ⟨rfl, h1, t1⟩
    have HQ := Lib.hid (HTQ.out W1 h1 t1)
    obtain ⟨c0, c1, c2, c3⟩ := HST.out W1 HQ.out.1
    clear h1 t1
    cases A
    · have HRE : Hid (R = (S, nd && T, [])) := Lib.hid (HRR.out.trans (if_neg (by simp)))
      go_wp2_with fail
      refine (HAS.out W1 HQ.out.2.row).mono ?_
      rintro e W2 ⟨rfl, hb2⟩
      have HB2 := Lib.hid hb2
      clear hb2
      go_wp2_with fail
      go_ret
      rw [HRE.out]
      exact ⟨_, rfl, RowIn.nil _ _ _, HQ.out.1.tk.below HB2.out, HQ.out.1.old.trans (Turn.of_below HB2.out)⟩
    · go_wp2_with fail
      refine (HAS.out W1 HQ.out.2.row).mono ?_
      rintro e W2 ⟨rfl, hb2⟩
      have htk := HQ.out.1.tk.below hb2
      have hol := HQ.out.1.old.trans (Turn.of_below hb2)
      have HTK := Lib.hid htk
      have HOL := Lib.hid hol
      have d0 := htk.name
      have d1 := htk.told
      have d2 := htk.frozen 1025
      clear hb2 htk hol
      cases T
      · have HRE : Hid (R = (S, nd && false, [])) := Lib.hid (HRR.out.trans (if_neg (by simp)))
        go_wp2_with fail
        refine (HON.out W2 HTK.out).mono ?_
        rintro e W' ⟨rfl, rfl⟩
        go_wp2_with fail
        go_ret
        rw [HRE.out]
        exact ⟨_, rfl, RowIn.nil _ _ _, HTK.out, HOL.out⟩
      · have HRE : Hid (R = (S, true, Iac.tellL 24 (0 :: nums nm))) := Lib.hid (HRR.out.trans (if_pos (by simp)))
        go_wp2_with fail
        refine (HON.out W2 HTK.out).mono ?_
        rintro e W' ⟨rfl, rfl⟩
        obtain ⟨i0, hi, hz0, hz1, hz2⟩ := info_parts info_byte
        have htk3 := HTK.out.setNd true
        have hol3 := HOL.out.trans (turn_set W2 b 1025 (.bool true))
        obtain ⟨W3, hW3⟩ : ∃ W3, W3 = W2.setCell ⟨b, 1025, none⟩ (.bool true) := ⟨_, rfl⟩
        rw [← hW3] at htk3 hol3
        have hown := new1_own W3 0
        have hnm3 := htk3.name
        have hblt := htk3.lt
        have HTK3 := Lib.hid htk3
        have HOL3 := Lib.hid hol3
        have HW3 := Lib.hid hW3.symm
        have HOWN := Lib.hid hown
        clear htk3 hol3 hW3 hown d0 hnm3 hblt
        go_upto_region 7 with fail
        rw [HW3.out]
        have hnm3 := HTK3.out.name
        have hblt := HTK3.out.lt
        go_wp2_with (at_builtin; go_loud (refine Lib.wpList_append_own_string _ rfl _ _ 24 9 rfl W3.heap.size 5 i0 Try.underlying24 Try.underlying9 hi hz0 hz1 hz2 _ 1 _ rfl HOWN.out nm rfl (by unfold maxLen; omega) (by omega) (by rw [World.size_alloc]; omega) ?_); intro v5 W5 hown5 hgr5 _)
        have hrow5 := own_strCells hown5
        have hb5 : Below W3.heap.size W3 W5 := (below_alloc W3 (.cells #[.int .u8 0] 5)).grown hgr5 (by rw [World.size_alloc]; omega) (fun r e => HOWN.out.first r e)
        have HR5 := Lib.hid hrow5.row
        have HB5 := Lib.hid hb5
        clear hown5 hgr5 hrow5 hb5
        go_wp2_with fail
        refine (Iac.tell_any 24 _ (0 :: nums nm) W5 HR5.out (by rw [List.length_cons, nums_length]; omega)).mono ?_
        rintro e W6 ⟨p, rfl, hp, hb6⟩
        have HP6 := Lib.hid hp
        have HB6 := Lib.hid hb6
        clear hp hb6
        go_wp2_with fail
        go_ret
        rw [HRE.out]
        have hz3 := HOL3.out.size
        have hz5 := HB5.out.size
        exact ⟨_, rfl, HP6.out.rowIn.mono fun k hk => Nat.le_trans (Nat.le_trans hz3 hz5) hk, (HTK3.out.below HB5.out).below HB6.out, (HOL3.out.trans (Turn.of_below HB5.out)).trans (Turn.of_below HB6.out)⟩
end
end Go.Proofs.Ytimidoaafllnkaa.Talk
