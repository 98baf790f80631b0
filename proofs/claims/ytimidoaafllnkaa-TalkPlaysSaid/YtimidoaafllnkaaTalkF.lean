/-
  The statements' own example of talks.
-/
import Derived.Test.YtimidoaafllnkaaTalkE
namespace Go.Proofs.Ytimidoaafllnkaa.Talk
open Go.RowKit Base Opt
set_option linter.unusedVariables false

/-- A call's own talk. -/
structure TQ (w : World) (b : Nat) (nm : ByteArray) (M : Nat → Bool) (S : Nat → Nat) (nd : Bool) (W : World) : Prop where
  tk : TalkAt W b nm M S nd
  old : Below w.heap.size w W
  lo : w.heap.size ≤ b
/-- A row of bytes apart from the talk. -/
def Far (b : Nat) (W : World) (v : Value) (L : List Int) : Prop := RowIn (fun k => k ≠ b) .u8 W v L
section
variable {w W W' : World} {b : Nat} {nm : ByteArray} {M : Nat → Bool} {S S' : Nat → Nat} {nd nd' : Bool} {v : Value} {L : List Int}
theorem Far.turn (h : Far b W v L) (t : Turn (At b) W W') : Far b W' v L := RowIn.turn h t fun _ hk => hk
theorem Far.below (h : Far b W v L) (t : Below W.heap.size W W') : Far b W' v L := RowIn.below h t
theorem Far.form (h : Far b W v L) : ∃ a c, v = .slice a L.length c := by obtain ⟨a, c, rfl, _⟩ := h; exact ⟨a, c, rfl⟩
theorem Far.str (h : Far b W v L) : (convert 24 9 v).run Try.prog W = .ok (.string (strOfNums L)) W := row_str h.row
theorem TQ.below (h : TQ w b nm M S nd W) (t : Below W.heap.size W W') : TQ w b nm M S nd W' := ⟨h.tk.below t, h.old.trans (t.mono h.old.size), h.lo⟩
theorem TQ.turn (h : TQ w b nm M S nd W) (t : Turn (At b) W W') (k : TalkAt W' b nm M S' nd') : TQ w b nm M S' nd' W' := ⟨k, h.old.trans (t.at_below h.old.size h.lo), h.lo⟩
theorem TQ.drewN (h : TQ w b nm M S nd W) (n : Nat) : TQ w b nm M S nd (W.drewN n) := ⟨h.tk, below_drewN h.old n, h.lo⟩
/-- A Take, with what it answers. -/
theorem take_step (h : TQ w b nm M S nd W) (hs : Le5 S) (hnm : nm.size ≤ 1000) (k c : Int) (o : Nat) (ho : o < 256) (v : Value) (L : List Int) (hr : RowOf .u8 W v L) (R : (Nat → Nat) × Bool × List Int) (hR : takeR nm M S nd k c o L = R) :
    Calls Try.prog 27 #[.pointer (some ⟨b, 0, none⟩), .agg #[.int .i64 k, .int .u8 c, .int .u8 o, v]] W fun e W' => ∃ p, e = .returned p ∧ TQ w b nm M R.1 R.2.1 W' ∧ Far b W' p R.2.2 ∧ Turn (At b) W W' := by
  subst hR
  refine (take_any k c o ho v L hr h.tk hs hnm).mono ?_
  rintro e W' ⟨p, rfl, hp, ht, hu⟩
  exact ⟨p, rfl, h.turn hu ht, hp.mono fun k hk => by have := h.tk.lt; omega, hu⟩
/-- A Take of a verb. -/
theorem take_verb (h : TQ w b nm M S nd W) (hs : Le5 S) (hnm : nm.size ≤ 1000) (c : Int) (o : Nat) (ho : o < 256) (R : (Nat → Nat) × Bool × List Int) (hR : takeR nm M S nd 4 c o [] = R) :
    Calls Try.prog 27 #[.pointer (some ⟨b, 0, none⟩), .agg #[.int .i64 4, .int .u8 c, .int .u8 o, .slice none 0 0]] W fun e W' => ∃ p, e = .returned p ∧ TQ w b nm M R.1 R.2.1 W' ∧ Far b W' p R.2.2 ∧ Turn (At b) W W' :=
  take_step h hs hnm 4 c o ho _ [] (RowOf.nil _ _) R hR
/-- A Take of what asks for the name. -/
theorem take_asks (h : TQ w b nm M S nd W) (hs : Le5 S) (hnm : nm.size ≤ 1000) (R : (Nat → Nat) × Bool × List Int) (hR : takeR nm M S nd 5 0 24 [1] = R) :
    Calls Try.prog 27 #[.pointer (some ⟨b, 0, none⟩), .agg #[.int .i64 5, .int .u8 0, .int .u8 24, .slice (some ⟨W.heap.size, 0, none⟩) 1 1]] (W.alloc (.cells #[.int .u8 1] 5)) fun e W' => ∃ p, e = .returned p ∧ TQ w b nm M R.1 R.2.1 W' ∧ Far b W' p R.2.2 ∧ Turn (At b) W W' := by
  have hb := below_alloc W (.cells #[.int .u8 1] 5)
  have := take_step (h.below hb) hs hnm 5 0 24 (by omega) _ [1] (row_one8 W 1 5) R hR
  refine this.mono ?_
  rintro e W' ⟨p, he, h1, h2, h3⟩
  exact ⟨p, he, h1, h2, (Turn.of_below hb).trans h3⟩
end
def nm0 : ByteArray := ⟨#[73, 66, 77, 45, 51, 50, 55, 56, 45, 50]⟩
theorem nm0_clean : cleaned nm0 = nm0 := by decide +kernel
def M0 (ext : Bool) : Nat → Bool := mayM (oursL ext) [0, 25]
def S0 : Nat → Nat := fun _ => 0
def S1 : Nat → Nat := upd S0 280 1
def S2 : Nat → Nat := upd S1 296 1
def S3 : Nat → Nat := upd S2 296 2
theorem le5_S0 : Le5 S0 := fun _ => by simp [S0]
theorem le5_S1 : Le5 S1 := le5_S0.upd _ _ (by omega)
theorem le5_S2 : Le5 S2 := le5_S1.upd _ _ (by omega)
theorem le5_S3 : Le5 S3 := le5_S2.upd _ _ (by omega)
theorem r1 (nm : ByteArray) (M : Nat → Bool) : takeR nm M S0 false 5 0 24 [1] = (S0, false, []) := rfl
theorem r2 (nm : ByteArray) (ext : Bool) : takeR nm (M0 ext) S0 false 4 253 24 [] = (S1, false, [255, 251, 24]) := by cases ext <;> rfl
theorem r3 (nm : ByteArray) (M : Nat → Bool) (nd : Bool) : takeR nm M S1 nd 5 0 24 [1] = (S1, true, Iac.tellL 24 (0 :: nums nm)) := rfl
theorem r4 (nm : ByteArray) : takeR nm (M0 true) S1 true 4 253 40 [] = (S2, true, [255, 251, 40]) := rfl
theorem r5 : wantS S2 252 40 = (S3, [255, 252, 40], 0) := rfl
theorem r6 : (wantS S3 252 40).2.1 = [] := rfl
theorem info_ev0 : (Try.prog.info? 26).map (fun i => (i.zero, i.size)) = some (some (.agg #[.int .i64 0, .int .u8 0, .int .u8 0, .slice none 0 0]), 4) := by kernel_rfl
theorem told0 : strOfNums (Iac.tellL 24 (0 :: nums nm0)) = ⟨#[255, 250, 24, 0, 73, 66, 77, 45, 51, 50, 55, 56, 45, 50, 255, 240]⟩ := by decide +kernel
set_option maxRecDepth 100000 in
set_option maxHeartbeats 4000000 in
theorem talk_alive (w : World) : Calls Try.prog 23 #[] w fun e w' => e = .returned (.bool true) ∧ Below w.heap.size w w' := by
  have hze := (zero_of_info info_ev0).1
  have hnm : nm0.size ≤ 1000 := by decide
  have HNEW : Hid (∀ w, Calls Try.prog 25 #[.string ⟨#[73, 66, 77, 45, 51, 50, 55, 56, 45, 50]⟩, .bool true] w (NewK nm0 true w)) := Lib.hid fun w => by
    have := talk_new nm0 true w (by unfold maxLen; decide)
    rw [nm0_clean] at this
    exact this
  go_enter Try.func23, Try.ntmps23
  go_wp2_with fail
  refine (HNEW.out w).mono ?_
  rintro e W1 ⟨b, rfl, ht1, hb1, hlo⟩
  have HQ1 : Hid (TQ w b nm0 (M0 true) S0 false W1) := Lib.hid ⟨ht1, hb1, hlo⟩
  clear ht1 hb1 hlo
  go_wp2_with fail
  refine (take_asks HQ1.out le5_S0 hnm _ (r1 _ _)).mono ?_
  rintro e W2 ⟨p2, rfl, hq2, hf2, hu2⟩
  have HQ2 := Lib.hid hq2
  have HF2 := Lib.hid hf2
  clear hq2 hf2 hu2
  go_wp2_with fail
  refine (take_verb HQ2.out le5_S0 hnm 253 24 (by omega) _ (r2 _ true)).mono ?_
  rintro e W3 ⟨p3, rfl, hq3, hf3, hu3⟩
  have HQ3 := Lib.hid hq3
  have HF3 := Lib.hid hf3
  have HF23 := Lib.hid (HF2.out.turn hu3)
  clear hq3 hf3 hu3
  go_wp2_with fail
  refine (take_asks HQ3.out le5_S1 hnm _ (r3 _ _ _)).mono ?_
  rintro e W4 ⟨p4, rfl, hq4, hf4, hu4⟩
  have HQ4 := Lib.hid hq4
  have HF4 := Lib.hid hf4
  have HF24 := Lib.hid (HF23.out.turn hu4)
  have HF34 := Lib.hid (HF3.out.turn hu4)
  clear hq4 hf4 hu4
  go_wp2_with fail
  refine (take_verb HQ4.out le5_S1 hnm 253 40 (by omega) _ (r4 _)).mono ?_
  rintro e W5 ⟨p5, rfl, hq5, hf5, hu5⟩
  have HQ5 := Lib.hid hq5
  have HF5 := Lib.hid hf5
  have HF25 := Lib.hid (HF24.out.turn hu5)
  have HF35 := Lib.hid (HF34.out.turn hu5)
  have HF45 := Lib.hid (HF4.out.turn hu5)
  clear hq5 hf5 hu5
  go_wp2_with fail
  refine (show Calls Try.prog 34 #[.pointer (some ⟨b, 0, none⟩)] W5 fun e w' => e = .returned (.bool true) ∧ W5 = w' from extended_any HQ5.out.tk).mono ?_
  rintro e W' ⟨rfl, rfl⟩
  go_wp2_with fail
  have hlv : Calls Try.prog 30 #[.pointer (some ⟨b, 0, none⟩)] W5 (GotK b nm0 (M0 true) S3 true [255, 252, 40] W5) := leave_any (S := S2) HQ5.out.tk le5_S2
  refine hlv.mono ?_
  rintro e W6 ⟨p6, rfl, hr6, ht6, hu6⟩
  have HQ6 : Hid (TQ w b nm0 (M0 true) S3 true W6) := Lib.hid (HQ5.out.turn hu6 ht6)
  have HF6 : Hid (Far b W6 p6 [255, 252, 40]) := Lib.hid (hr6.mono fun k hk => by have := HQ5.out.tk.lt; omega)
  have HF26 := Lib.hid (HF25.out.turn hu6)
  have HF36 := Lib.hid (HF35.out.turn hu6)
  have HF46 := Lib.hid (HF45.out.turn hu6)
  have HF56 := Lib.hid (HF5.out.turn hu6)
  clear hlv hr6 ht6 hu6
  obtain ⟨a2, c2, rfl⟩ := HF26.out.form
  have hs3 : (convert 24 9 p3).run Try.prog W6 = .ok (.string ⟨#[255, 251, 24]⟩) W6 := HF36.out.str
  have hs4 : (convert 24 9 p4).run Try.prog W6 = .ok (.string ⟨#[255, 250, 24, 0, 73, 66, 77, 45, 51, 50, 55, 56, 45, 50, 255, 240]⟩) W6 := by rw [← told0]; exact HF46.out.str
  have hs5 : (convert 24 9 p5).run Try.prog W6 = .ok (.string ⟨#[255, 251, 40]⟩) W6 := HF56.out.str
  have hs6 : (convert 24 9 p6).run Try.prog W6 = .ok (.string ⟨#[255, 252, 40]⟩) W6 := HF6.out.str
  go_wp2_with fail
  refine (show Calls Try.prog 34 #[.pointer (some ⟨b, 0, none⟩)] W6 fun e w' => e = .returned (.bool false) ∧ W6 = w' from extended_any (S := S3) HQ6.out.tk).mono ?_
  rintro e W' ⟨rfl, rfl⟩
  clear hs3 hs4 hs5 hs6
  go_wp2_with fail
  refine (show Calls Try.prog 36 #[.pointer (some ⟨b, 0, none⟩)] W6 fun e w' => e = .returned (.bool true) ∧ TalkAt w' b nm0 (M0 true) S3 true ∧ Turn (At b) W6 w' from named_any (S := S3) HQ6.out.tk).mono ?_
  rintro e W7 ⟨rfl, ht7, hu7⟩
  have HQ7 := Lib.hid (HQ6.out.turn hu7 ht7)
  clear ht7 hu7
  go_wp2_with fail
  refine (show Calls Try.prog 32 #[.pointer (some ⟨b, 0, none⟩)] W7 fun e w' => e = .returned (.bool false) ∧ (TalkAt w' b nm0 (M0 true) S3 true ∨ TalkAt w' b nm0 (M0 true) S3 true) ∧ Turn (At b) W7 w' from basic_any (S := S3) HQ7.out.tk).mono ?_
  rintro e W8 ⟨rfl, ht8, hu8⟩
  have HQ8 := Lib.hid (HQ7.out.turn hu8 (ht8.elim id id))
  clear ht8 hu8
  go_wp2_with fail
  refine (show Calls Try.prog 37 #[.pointer (some ⟨b, 0, none⟩)] W8 fun e w' => e = .returned (.string ⟨#[73, 66, 77, 45, 51, 50, 55, 56, 45, 50]⟩) ∧ W8 = w' from name_any HQ8.out.tk).mono ?_
  rintro e W' ⟨rfl, rfl⟩
  go_wp2_with fail
  have hop := options_any HQ8.out.tk
  have hty : (true && typeOn S3) = true := rfl
  rw [hty] at hop
  clear hty
  refine hop.mono ?_
  rintro e W9 ⟨rfl, ht9, hu9⟩
  have HQ9 := Lib.hid (HQ8.out.turn hu9 ht9)
  clear ht9 hu9 hop
  go_wp2_with fail
  have hl2 : Calls Try.prog 30 #[.pointer (some ⟨b, 0, none⟩)] W9 (GotK b nm0 (M0 true) (upd S3 296 2) true [] W9) := leave_any (S := S3) HQ9.out.tk le5_S3
  refine hl2.mono ?_
  rintro e WA ⟨pA, rfl, hrA, htA, huA⟩
  have HQA := Lib.hid (HQ9.out.turn huA htA)
  obtain ⟨aA, cA, rfl, _⟩ := hrA
  clear hl2 htA huA
  go_wp2_with fail
  go_ret
  exact ⟨rfl, HQA.out.old⟩
end Go.Proofs.Ytimidoaafllnkaa.Talk
