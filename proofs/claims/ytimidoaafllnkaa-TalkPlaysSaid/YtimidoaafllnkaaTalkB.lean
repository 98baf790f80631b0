/-
  The calls Got and Want of a talk's options.
-/
import Derived.Test.YtimidoaafllnkaaTalkA
namespace Go.Proofs.Ytimidoaafllnkaa.Talk
open Go.RowKit Base Opt
set_option linter.unusedVariables false

def SaidK (b : Nat) (nm : ByteArray) (M : Nat → Bool) (S : Nat → Nat) (nd : Bool) (i s' r : Nat) (w : World) (e : Ending) (w' : World) : Prop := e = .returned (.int .i64 r) ∧ TalkAt w' b nm M (upd S i s') nd ∧ Turn (At b) w w'
def SaidK2 (b : Nat) (nm : ByteArray) (M : Nat → Bool) (S : Nat → Nat) (nd : Bool) (i s' r r' : Nat) (w : World) (e : Ending) (w' : World) : Prop := e = .returned (.tuple #[.int .i64 r, .int .i64 r']) ∧ TalkAt w' b nm M (upd S i s') nd ∧ Turn (At b) w w'
section
variable {w : World} {b : Nat} {nm : ByteArray} {M : Nat → Bool} {S : Nat → Nat} {nd : Bool}
theorem turned {i s' : Nat} {w' : World} (h : TalkAt w b nm M S nd) (hi : i < 1024) (hm : i / 256 % 2 = 1) (k : w' = w.setCell ⟨b, 1 + i, none⟩ (.int .i64 s') ∨ (w' = w ∧ S i = s')) : TalkAt w' b nm M (upd S i s') nd ∧ Turn (At b) w w' := by
  rcases k with rfl | ⟨rfl, hs⟩
  · exact ⟨h.set i s' hm hi, turn_set _ _ _ _⟩
  · rw [upd_same S i s' hs]; exact ⟨h, Turn.refl _ _⟩
theorem heardOnO (o : Nat) (ho : o < 256) (h : TalkAt w b nm M S nd) (hs : S (256 + o) ≤ 5) : Calls Try.prog 100 #[.pointer (some ⟨b, 1, none⟩), .int .u8 o] w (SaidK b nm M S nd (256 + o) (onS (M o) (S (256 + o))).1 (onS (M o) (S (256 + o))).2 w) := by
  have hc := h.st (256 + o) (by omega) (by omega)
  rw [show 1 + (256 + o) = 1 + 256 + o by omega] at hc
  have hm := h.may o (by omega) (by omega)
  rw [show 1 + o = 1 + o by omega] at hm
  refine (heardOn_raw 1 o _ _ hc hm (h.frozen _) ho hs).mono ?_
  rintro e w' ⟨he, hk⟩
  rw [show 1 + 256 + o = 1 + (256 + o) by omega] at hk
  exact ⟨he, turned h (by omega) (by omega) hk⟩
theorem heardOnT (o : Nat) (ho : o < 256) (h : TalkAt w b nm M S nd) (hs : S (768 + o) ≤ 5) : Calls Try.prog 100 #[.pointer (some ⟨b, 513, none⟩), .int .u8 o] w (SaidK b nm M S nd (768 + o) (onS (M (512 + o)) (S (768 + o))).1 (onS (M (512 + o)) (S (768 + o))).2 w) := by
  have hc := h.st (768 + o) (by omega) (by omega)
  rw [show 1 + (768 + o) = 513 + 256 + o by omega] at hc
  have hm := h.may (512 + o) (by omega) (by omega)
  rw [show 1 + (512 + o) = 513 + o by omega] at hm
  refine (heardOn_raw 513 o _ _ hc hm (h.frozen _) ho hs).mono ?_
  rintro e w' ⟨he, hk⟩
  rw [show 513 + 256 + o = 1 + (768 + o) by omega] at hk
  exact ⟨he, turned h (by omega) (by omega) hk⟩
theorem heardOffO (o : Nat) (ho : o < 256) (h : TalkAt w b nm M S nd) (hs : S (256 + o) ≤ 5) : Calls Try.prog 101 #[.pointer (some ⟨b, 1, none⟩), .int .u8 o] w (SaidK b nm M S nd (256 + o) (offS (S (256 + o))).1 (offS (S (256 + o))).2 w) := by
  have hc := h.st (256 + o) (by omega) (by omega)
  rw [show 1 + (256 + o) = 1 + 256 + o by omega] at hc
  refine (heardOff_raw 1 o _ hc (h.frozen _) ho hs).mono ?_
  rintro e w' ⟨he, hk⟩
  rw [show 1 + 256 + o = 1 + (256 + o) by omega] at hk
  exact ⟨he, turned h (by omega) (by omega) hk⟩
theorem heardOffT (o : Nat) (ho : o < 256) (h : TalkAt w b nm M S nd) (hs : S (768 + o) ≤ 5) : Calls Try.prog 101 #[.pointer (some ⟨b, 513, none⟩), .int .u8 o] w (SaidK b nm M S nd (768 + o) (offS (S (768 + o))).1 (offS (S (768 + o))).2 w) := by
  have hc := h.st (768 + o) (by omega) (by omega)
  rw [show 1 + (768 + o) = 513 + 256 + o by omega] at hc
  refine (heardOff_raw 513 o _ hc (h.frozen _) ho hs).mono ?_
  rintro e w' ⟨he, hk⟩
  rw [show 513 + 256 + o = 1 + (768 + o) by omega] at hk
  exact ⟨he, turned h (by omega) (by omega) hk⟩
theorem wantOnO (o : Nat) (ho : o < 256) (h : TalkAt w b nm M S nd) (hs : S (256 + o) ≤ 5) : Calls Try.prog 103 #[.pointer (some ⟨b, 1, none⟩), .int .u8 o] w (SaidK2 b nm M S nd (256 + o) (wantOnS (S (256 + o))).1 (wantOnS (S (256 + o))).2.1 (wantOnS (S (256 + o))).2.2 w) := by
  have hc := h.st (256 + o) (by omega) (by omega)
  rw [show 1 + (256 + o) = 1 + 256 + o by omega] at hc
  refine (wantOn_raw 1 o _ hc (h.frozen _) ho hs).mono ?_
  rintro e w' ⟨he, hk⟩
  rw [show 1 + 256 + o = 1 + (256 + o) by omega] at hk
  exact ⟨he, turned h (by omega) (by omega) hk⟩
theorem wantOnT (o : Nat) (ho : o < 256) (h : TalkAt w b nm M S nd) (hs : S (768 + o) ≤ 5) : Calls Try.prog 103 #[.pointer (some ⟨b, 513, none⟩), .int .u8 o] w (SaidK2 b nm M S nd (768 + o) (wantOnS (S (768 + o))).1 (wantOnS (S (768 + o))).2.1 (wantOnS (S (768 + o))).2.2 w) := by
  have hc := h.st (768 + o) (by omega) (by omega)
  rw [show 1 + (768 + o) = 513 + 256 + o by omega] at hc
  refine (wantOn_raw 513 o _ hc (h.frozen _) ho hs).mono ?_
  rintro e w' ⟨he, hk⟩
  rw [show 513 + 256 + o = 1 + (768 + o) by omega] at hk
  exact ⟨he, turned h (by omega) (by omega) hk⟩
theorem wantOffO (o : Nat) (ho : o < 256) (h : TalkAt w b nm M S nd) (hs : S (256 + o) ≤ 5) : Calls Try.prog 104 #[.pointer (some ⟨b, 1, none⟩), .int .u8 o] w (SaidK2 b nm M S nd (256 + o) (wantOffS (S (256 + o))).1 (wantOffS (S (256 + o))).2.1 (wantOffS (S (256 + o))).2.2 w) := by
  have hc := h.st (256 + o) (by omega) (by omega)
  rw [show 1 + (256 + o) = 1 + 256 + o by omega] at hc
  refine (wantOff_raw 1 o _ hc (h.frozen _) ho hs).mono ?_
  rintro e w' ⟨he, hk⟩
  rw [show 1 + 256 + o = 1 + (256 + o) by omega] at hk
  exact ⟨he, turned h (by omega) (by omega) hk⟩
theorem wantOffT (o : Nat) (ho : o < 256) (h : TalkAt w b nm M S nd) (hs : S (768 + o) ≤ 5) : Calls Try.prog 104 #[.pointer (some ⟨b, 513, none⟩), .int .u8 o] w (SaidK2 b nm M S nd (768 + o) (wantOffS (S (768 + o))).1 (wantOffS (S (768 + o))).2.1 (wantOffS (S (768 + o))).2.2 w) := by
  have hc := h.st (768 + o) (by omega) (by omega)
  rw [show 1 + (768 + o) = 513 + 256 + o by omega] at hc
  refine (wantOff_raw 513 o _ hc (h.frozen _) ho hs).mono ?_
  rintro e w' ⟨he, hk⟩
  rw [show 513 + 256 + o = 1 + (768 + o) by omega] at hk
  exact ⟨he, turned h (by omega) (by omega) hk⟩
/-- What a call answers that turns states, and tells bytes. -/
def GotK (b : Nat) (nm : ByteArray) (M : Nat → Bool) (S' : Nat → Nat) (nd : Bool) (L : List Int) (w : World) (e : Ending) (w' : World) : Prop :=
  ∃ v, e = .returned v ∧ RowIn (fun k => w.heap.size ≤ k) .u8 w' v L ∧ TalkAt w' b nm M S' nd ∧ Turn (At b) w w'
theorem GotK.mk {S' : Nat → Nat} {L : List Int} {w1 w2 : World} {v : Value} (h : TalkAt w1 b nm M S' nd) (t : Turn (At b) w w1) (hr : RowIn (fun k => w1.heap.size ≤ k) .u8 w2 v L) (hb : Below w1.heap.size w1 w2) : GotK b nm M S' nd L w (.returned v) w2 :=
  ⟨v, rfl, hr.mono fun k hk => Nat.le_trans t.size hk, h.below hb, t.trans (Turn.of_below hb)⟩
theorem got_talk (c : Int) (o : Nat) (ho : o < 256) (h : TalkAt w b nm M S nd) (hs : Le5 S) :
    Calls Try.prog 72 #[.pointer (some ⟨b, 1, none⟩), .int .u8 c, .int .u8 o] w (GotK b nm M (gotS M S c o).1 nd (gotS M S c o).2 w) := by
  have hs1 := hs (256 + o)
  have hs2 := hs (768 + o)
  have H := Lib.hid h
  clear h hs
  by_cases c1 : c = 251
  · subst c1
    rw [show gotS M S 251 o = (upd S (768 + o) (onS (M (512 + o)) (S (768 + o))).1, sayL false (onS (M (512 + o)) (S (768 + o))).2 o) from rfl]
    go_enter Try.func72, Try.ntmps72
    go_wp2_with fail
    refine (heardOnT o ho H.out hs2).mono ?_
    rintro e w1 ⟨rfl, h1, t1⟩
    have H1 := Lib.hid h1
    have T1 := Lib.hid t1
    clear h1 t1
    go_wp2_with fail
    refine (osay_any false _ o (onS_word _ _) w1).mono ?_
    rintro e w2 ⟨v, rfl, hr, hb⟩
    go_wp2_with fail
    go_ret
    exact GotK.mk H1.out T1.out hr hb
  by_cases c2 : c = 252
  · subst c2
    rw [show gotS M S 252 o = (upd S (768 + o) (offS (S (768 + o))).1, sayL false (offS (S (768 + o))).2 o) from rfl]
    go_enter Try.func72, Try.ntmps72
    go_wp2_with fail
    refine (heardOffT o ho H.out hs2).mono ?_
    rintro e w1 ⟨rfl, h1, t1⟩
    have H1 := Lib.hid h1
    have T1 := Lib.hid t1
    clear h1 t1
    go_wp2_with fail
    refine (osay_any false _ o (offS_word _) w1).mono ?_
    rintro e w2 ⟨v, rfl, hr, hb⟩
    go_wp2_with fail
    go_ret
    exact GotK.mk H1.out T1.out hr hb
  by_cases c3 : c = 253
  · subst c3
    rw [show gotS M S 253 o = (upd S (256 + o) (onS (M o) (S (256 + o))).1, sayL true (onS (M o) (S (256 + o))).2 o) from rfl]
    go_enter Try.func72, Try.ntmps72
    go_wp2_with fail
    refine (heardOnO o ho H.out hs1).mono ?_
    rintro e w1 ⟨rfl, h1, t1⟩
    have H1 := Lib.hid h1
    have T1 := Lib.hid t1
    clear h1 t1
    go_wp2_with fail
    refine (osay_any true _ o (onS_word _ _) w1).mono ?_
    rintro e w2 ⟨v, rfl, hr, hb⟩
    go_wp2_with fail
    go_ret
    exact GotK.mk H1.out T1.out hr hb
  by_cases c4 : c = 254
  · subst c4
    rw [show gotS M S 254 o = (upd S (256 + o) (offS (S (256 + o))).1, sayL true (offS (S (256 + o))).2 o) from rfl]
    go_enter Try.func72, Try.ntmps72
    go_wp2_with fail
    refine (heardOffO o ho H.out hs1).mono ?_
    rintro e w1 ⟨rfl, h1, t1⟩
    have H1 := Lib.hid h1
    have T1 := Lib.hid t1
    clear h1 t1
    go_wp2_with fail
    refine (osay_any true _ o (offS_word _) w1).mono ?_
    rintro e w2 ⟨v, rfl, hr, hb⟩
    go_wp2_with fail
    go_ret
    exact GotK.mk H1.out T1.out hr hb
  have e0 : gotS M S c o = (S, []) := by unfold gotS; rw [if_neg c1, if_neg c2, if_neg c3, if_neg c4]
  rw [e0]
  have d1 : (c == 251) = false := by simpa using c1
  have d2 : (c == 252) = false := by simpa using c2
  have d3 : (c == 253) = false := by simpa using c3
  have d4 : (c == 254) = false := by simpa using c4
  clear c1 c2 c3 c4 e0
  go_enter Try.func72, Try.ntmps72
  go_wp2_with fail
  go_ret
  exact ⟨_, rfl, RowIn.nil _ _ _, H.out, Turn.refl _ w⟩
def WantK (b : Nat) (nm : ByteArray) (M : Nat → Bool) (S' : Nat → Nat) (nd : Bool) (L : List Int) (n : Nat) (w : World) (e : Ending) (w' : World) : Prop :=
  ∃ v, e = .returned (.tuple #[v, .int .i64 n]) ∧ RowIn (fun k => w.heap.size ≤ k) .u8 w' v L ∧ TalkAt w' b nm M S' nd ∧ Turn (At b) w w'
theorem WantK.mk {b : Nat} {nm : ByteArray} {M : Nat → Bool} {nd : Bool} {S' : Nat → Nat} {L : List Int} {n : Nat} {w w1 w2 : World} {v : Value} (h : TalkAt w1 b nm M S' nd) (t : Turn (At b) w w1) (hr : RowIn (fun k => w1.heap.size ≤ k) .u8 w2 v L) (hb : Below w1.heap.size w1 w2) : WantK b nm M S' nd L n w (.returned (.tuple #[v, .int .i64 n])) w2 :=
  ⟨v, rfl, hr.mono fun k hk => Nat.le_trans t.size hk, h.below hb, t.trans (Turn.of_below hb)⟩
theorem want_talk (c : Int) (o : Nat) (ho : o < 256) (h : TalkAt w b nm M S nd) (hs : Le5 S) :
    Calls Try.prog 76 #[.pointer (some ⟨b, 1, none⟩), .int .u8 c, .int .u8 o] w (WantK b nm M (wantS S c o).1 nd (wantS S c o).2.1 (wantS S c o).2.2 w) := by
  have hs1 := hs (256 + o)
  have hs2 := hs (768 + o)
  have H := Lib.hid h
  clear h hs
  by_cases c1 : c = 251
  · subst c1
    rw [show wantS S 251 o = (upd S (256 + o) (wantOnS (S (256 + o))).1, sayL true (wantOnS (S (256 + o))).2.1 o, (wantOnS (S (256 + o))).2.2) from rfl]
    go_enter Try.func76, Try.ntmps76
    go_wp2_with fail
    refine (wantOnO o ho H.out hs1).mono ?_
    rintro e w1 ⟨rfl, h1, t1⟩
    have H1 := Lib.hid h1
    have T1 := Lib.hid t1
    clear h1 t1
    go_wp2_with fail
    refine (osay_any true _ o (wantOnS_word _) w1).mono ?_
    rintro e w2 ⟨v, rfl, hr, hb⟩
    go_wp2_with fail
    go_ret2
    exact WantK.mk H1.out T1.out hr hb
  by_cases c2 : c = 252
  · subst c2
    rw [show wantS S 252 o = (upd S (256 + o) (wantOffS (S (256 + o))).1, sayL true (wantOffS (S (256 + o))).2.1 o, (wantOffS (S (256 + o))).2.2) from rfl]
    go_enter Try.func76, Try.ntmps76
    go_wp2_with fail
    refine (wantOffO o ho H.out hs1).mono ?_
    rintro e w1 ⟨rfl, h1, t1⟩
    have H1 := Lib.hid h1
    have T1 := Lib.hid t1
    clear h1 t1
    go_wp2_with fail
    refine (osay_any true _ o (wantOffS_word _) w1).mono ?_
    rintro e w2 ⟨v, rfl, hr, hb⟩
    go_wp2_with fail
    go_ret2
    exact WantK.mk H1.out T1.out hr hb
  by_cases c3 : c = 253
  · subst c3
    rw [show wantS S 253 o = (upd S (768 + o) (wantOnS (S (768 + o))).1, sayL false (wantOnS (S (768 + o))).2.1 o, (wantOnS (S (768 + o))).2.2) from rfl]
    go_enter Try.func76, Try.ntmps76
    go_wp2_with fail
    refine (wantOnT o ho H.out hs2).mono ?_
    rintro e w1 ⟨rfl, h1, t1⟩
    have H1 := Lib.hid h1
    have T1 := Lib.hid t1
    clear h1 t1
    go_wp2_with fail
    refine (osay_any false _ o (wantOnS_word _) w1).mono ?_
    rintro e w2 ⟨v, rfl, hr, hb⟩
    go_wp2_with fail
    go_ret2
    exact WantK.mk H1.out T1.out hr hb
  by_cases c4 : c = 254
  · subst c4
    rw [show wantS S 254 o = (upd S (768 + o) (wantOffS (S (768 + o))).1, sayL false (wantOffS (S (768 + o))).2.1 o, (wantOffS (S (768 + o))).2.2) from rfl]
    go_enter Try.func76, Try.ntmps76
    go_wp2_with fail
    refine (wantOffT o ho H.out hs2).mono ?_
    rintro e w1 ⟨rfl, h1, t1⟩
    have H1 := Lib.hid h1
    have T1 := Lib.hid t1
    clear h1 t1
    go_wp2_with fail
    refine (osay_any false _ o (wantOffS_word _) w1).mono ?_
    rintro e w2 ⟨v, rfl, hr, hb⟩
    go_wp2_with fail
    go_ret2
    exact WantK.mk H1.out T1.out hr hb
  have e0 : wantS S c o = (S, [], 1) := by unfold wantS; rw [if_neg c1, if_neg c2, if_neg c3, if_neg c4]
  rw [e0]
  have d1 : (c == 251) = false := by simpa using c1
  have d2 : (c == 252) = false := by simpa using c2
  have d3 : (c == 253) = false := by simpa using c3
  have d4 : (c == 254) = false := by simpa using c4
  clear c1 c2 c3 c4 e0
  go_enter Try.func76, Try.ntmps76
  go_wp2_with fail
  refine (osay_any false 0 o (by omega) w).mono ?_
  rintro e w2 ⟨v, rfl, hr, hb⟩
  go_wp2_with fail
  go_ret2
  exact WantK.mk H.out (Turn.refl _ w) hr hb
end
end Go.Proofs.Ytimidoaafllnkaa.Talk
