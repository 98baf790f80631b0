/-
  Contracts of Got, Want, State, On.
-/
import Derived.Test.YtimidoaafllnkaaOptA
namespace Go.Proofs.Ytimidoaafllnkaa.Opt
open Go.RowKit Base
set_option linter.unusedVariables false

/-! ### The calls of a side, of ours and of theirs -/
section
variable {w : World} {b : Nat} {M : Nat → Bool} {S : Nat → Nat}
theorem heardOnO (o : Nat) (ho : o < 256) (h : OptAt w b M S) (hs : S (256 + o) ≤ 5) : Calls Try.prog 100 #[.pointer (some ⟨b, 0, none⟩), .int .u8 o] w (Said b M S (256 + o) (onS (M o) (S (256 + o))).1 (onS (M o) (S (256 + o))).2 w) := by
  have := heardOn_any (w := w) (M := M) (S := S) 0 o (.inl rfl) ho h (by simpa using hs)
  simpa only [Nat.zero_add, Nat.reduceAdd] using this
theorem heardOnT (o : Nat) (ho : o < 256) (h : OptAt w b M S) (hs : S (768 + o) ≤ 5) : Calls Try.prog 100 #[.pointer (some ⟨b, 512, none⟩), .int .u8 o] w (Said b M S (768 + o) (onS (M (512 + o)) (S (768 + o))).1 (onS (M (512 + o)) (S (768 + o))).2 w) := by
  have := heardOn_any (w := w) (M := M) (S := S) 512 o (.inr rfl) ho h (by simpa using hs)
  simpa only [Nat.zero_add, Nat.reduceAdd] using this
theorem heardOffO (o : Nat) (ho : o < 256) (h : OptAt w b M S) (hs : S (256 + o) ≤ 5) : Calls Try.prog 101 #[.pointer (some ⟨b, 0, none⟩), .int .u8 o] w (Said b M S (256 + o) (offS (S (256 + o))).1 (offS (S (256 + o))).2 w) := by
  have := heardOff_any (w := w) (M := M) (S := S) 0 o (.inl rfl) ho h (by simpa using hs)
  simpa only [Nat.zero_add, Nat.reduceAdd] using this
theorem heardOffT (o : Nat) (ho : o < 256) (h : OptAt w b M S) (hs : S (768 + o) ≤ 5) : Calls Try.prog 101 #[.pointer (some ⟨b, 512, none⟩), .int .u8 o] w (Said b M S (768 + o) (offS (S (768 + o))).1 (offS (S (768 + o))).2 w) := by
  have := heardOff_any (w := w) (M := M) (S := S) 512 o (.inr rfl) ho h (by simpa using hs)
  simpa only [Nat.zero_add, Nat.reduceAdd] using this
theorem wantOnO (o : Nat) (ho : o < 256) (h : OptAt w b M S) (hs : S (256 + o) ≤ 5) : Calls Try.prog 103 #[.pointer (some ⟨b, 0, none⟩), .int .u8 o] w (Said2 b M S (256 + o) (wantOnS (S (256 + o))).1 (wantOnS (S (256 + o))).2.1 (wantOnS (S (256 + o))).2.2 w) := by
  have := wantOn_any (w := w) (M := M) (S := S) 0 o (.inl rfl) ho h (by simpa using hs)
  simpa only [Nat.zero_add, Nat.reduceAdd] using this
theorem wantOnT (o : Nat) (ho : o < 256) (h : OptAt w b M S) (hs : S (768 + o) ≤ 5) : Calls Try.prog 103 #[.pointer (some ⟨b, 512, none⟩), .int .u8 o] w (Said2 b M S (768 + o) (wantOnS (S (768 + o))).1 (wantOnS (S (768 + o))).2.1 (wantOnS (S (768 + o))).2.2 w) := by
  have := wantOn_any (w := w) (M := M) (S := S) 512 o (.inr rfl) ho h (by simpa using hs)
  simpa only [Nat.zero_add, Nat.reduceAdd] using this
theorem wantOffO (o : Nat) (ho : o < 256) (h : OptAt w b M S) (hs : S (256 + o) ≤ 5) : Calls Try.prog 104 #[.pointer (some ⟨b, 0, none⟩), .int .u8 o] w (Said2 b M S (256 + o) (wantOffS (S (256 + o))).1 (wantOffS (S (256 + o))).2.1 (wantOffS (S (256 + o))).2.2 w) := by
  have := wantOff_any (w := w) (M := M) (S := S) 0 o (.inl rfl) ho h (by simpa using hs)
  simpa only [Nat.zero_add, Nat.reduceAdd] using this
theorem wantOffT (o : Nat) (ho : o < 256) (h : OptAt w b M S) (hs : S (768 + o) ≤ 5) : Calls Try.prog 104 #[.pointer (some ⟨b, 512, none⟩), .int .u8 o] w (Said2 b M S (768 + o) (wantOffS (S (768 + o))).1 (wantOffS (S (768 + o))).2.1 (wantOffS (S (768 + o))).2.2 w) := by
  have := wantOff_any (w := w) (M := M) (S := S) 512 o (.inr rfl) ho h (by simpa using hs)
  simpa only [Nat.zero_add, Nat.reduceAdd] using this
end
/-- The states behind a verb, and what is said: M says which may be on, S the states; ours at 0 and 256, theirs at 512 and 768. -/
def gotS (M : Nat → Bool) (S : Nat → Nat) (c : Int) (o : Nat) : (Nat → Nat) × List Int :=
  if c = 251 then (upd S (768 + o) (onS (M (512 + o)) (S (768 + o))).1, sayL false (onS (M (512 + o)) (S (768 + o))).2 o)
  else if c = 252 then (upd S (768 + o) (offS (S (768 + o))).1, sayL false (offS (S (768 + o))).2 o)
  else if c = 253 then (upd S (256 + o) (onS (M o) (S (256 + o))).1, sayL true (onS (M o) (S (256 + o))).2 o)
  else if c = 254 then (upd S (256 + o) (offS (S (256 + o))).1, sayL true (offS (S (256 + o))).2 o)
  else (S, [])
def wantS (S : Nat → Nat) (c : Int) (o : Nat) : (Nat → Nat) × List Int × Nat :=
  if c = 251 then (upd S (256 + o) (wantOnS (S (256 + o))).1, sayL true (wantOnS (S (256 + o))).2.1 o, (wantOnS (S (256 + o))).2.2)
  else if c = 252 then (upd S (256 + o) (wantOffS (S (256 + o))).1, sayL true (wantOffS (S (256 + o))).2.1 o, (wantOffS (S (256 + o))).2.2)
  else if c = 253 then (upd S (768 + o) (wantOnS (S (768 + o))).1, sayL false (wantOnS (S (768 + o))).2.1 o, (wantOnS (S (768 + o))).2.2)
  else if c = 254 then (upd S (768 + o) (wantOffS (S (768 + o))).1, sayL false (wantOffS (S (768 + o))).2.1 o, (wantOffS (S (768 + o))).2.2)
  else (S, [], 1)
theorem onS_word (m : Bool) (s : Nat) : (onS m s).2 ≤ 2 := by
  unfold onS; split <;> (try split) <;> simp
theorem offS_word (s : Nat) : (offS s).2 ≤ 2 := by unfold offS; split <;> simp
theorem wantOnS_word (s : Nat) : (wantOnS s).2.1 ≤ 2 := by unfold wantOnS; split <;> simp
theorem wantOffS_word (s : Nat) : (wantOffS s).2.1 ≤ 2 := by unfold wantOffS; split <;> simp
theorem onS_state (m : Bool) (s : Nat) (h : s ≤ 5) : (onS m s).1 ≤ 5 := by
  unfold onS; split <;> (try split) <;> simp <;> omega
theorem offS_state (s : Nat) : (offS s).1 ≤ 5 := by unfold offS; split <;> simp
theorem wantOnS_state (s : Nat) (h : s ≤ 5) : (wantOnS s).1 ≤ 5 := by unfold wantOnS; split <;> simp <;> omega
theorem wantOffS_state (s : Nat) (h : s ≤ 5) : (wantOffS s).1 ≤ 5 := by unfold wantOffS; split <;> simp <;> omega
def Le5 (S : Nat → Nat) : Prop := ∀ j, S j ≤ 5
theorem Le5.upd {S : Nat → Nat} (h : Le5 S) (i v : Nat) (hv : v ≤ 5) : Le5 (upd S i v) := by
  intro j; unfold Opt.upd; split
  · exact hv
  · exact h j
theorem gotS_le {M : Nat → Bool} {S : Nat → Nat} (c : Int) (o : Nat) (h : Le5 S) : Le5 (gotS M S c o).1 := by
  unfold gotS
  repeat' split
  · exact h.upd _ _ (onS_state _ _ (h _))
  · exact h.upd _ _ (offS_state _)
  · exact h.upd _ _ (onS_state _ _ (h _))
  · exact h.upd _ _ (offS_state _)
  · exact h
theorem wantS_le {S : Nat → Nat} (c : Int) (o : Nat) (h : Le5 S) : Le5 (wantS S c o).1 := by
  unfold wantS
  repeat' split
  · exact h.upd _ _ (wantOnS_state _ (h _))
  · exact h.upd _ _ (wantOffS_state _ (h _))
  · exact h.upd _ _ (wantOnS_state _ (h _))
  · exact h.upd _ _ (wantOffS_state _ (h _))
  · exact h

/-- What a call answers that turns states, and tells bytes. -/
def GotP (b : Nat) (M : Nat → Bool) (S' : Nat → Nat) (L : List Int) (w : World) (e : Ending) (w' : World) : Prop :=
  ∃ v, e = .returned v ∧ RowIn (fun k => w.heap.size ≤ k) .u8 w' v L ∧ OptAt w' b M S' ∧ Turn (At b) w w'
theorem GotP.mk {b : Nat} {M : Nat → Bool} {S' : Nat → Nat} {L : List Int} {w w1 w2 : World} {v : Value} (h : OptAt w1 b M S') (t : Turn (At b) w w1) (hr : RowIn (fun k => w1.heap.size ≤ k) .u8 w2 v L) (hb : Below w1.heap.size w1 w2) : GotP b M S' L w (.returned v) w2 :=
  ⟨v, rfl, hr.mono fun k hk => Nat.le_trans t.size hk, h.below hb, t.trans (Turn.of_below hb)⟩
section
variable {w : World} {b : Nat} {M : Nat → Bool} {S : Nat → Nat}
theorem got_any (c : Int) (o : Nat) (ho : o < 256) (h : OptAt w b M S) (hs : Le5 S) :
    Calls Try.prog 72 #[.pointer (some ⟨b, 0, none⟩), .int .u8 c, .int .u8 o] w (GotP b M (gotS M S c o).1 (gotS M S c o).2 w) := by
  have hs1 := hs (256 + o)
  have hs2 := hs (768 + o)
  have H := Lib.hid h
  clear h hs
  by_cases c1 : c = 251
  · subst c1
    rw [show gotS M S 251 o = (upd S (768 + o) (onS (M (512 + o)) (S (768 + o))).1, sayL false (onS (M (512 + o)) (S (768 + o))).2 o) from rfl]
    go_enter Try.func72, Try.ntmps72
    go_wp2_with fail
    refine (heardOnT o ho H.out hs2).mono ?_
    rintro e w1 ⟨rfl, h1, t1⟩
    have H1 := Lib.hid h1
    have T1 := Lib.hid t1
    clear h1 t1
    go_wp2_with fail
    refine (osay_any false _ o (onS_word _ _) w1).mono ?_
    rintro e w2 ⟨v, rfl, hr, hb⟩
    go_wp2_with fail
    go_ret
    exact GotP.mk H1.out T1.out hr hb
  by_cases c2 : c = 252
  · subst c2
    rw [show gotS M S 252 o = (upd S (768 + o) (offS (S (768 + o))).1, sayL false (offS (S (768 + o))).2 o) from rfl]
    go_enter Try.func72, Try.ntmps72
    go_wp2_with fail
    refine (heardOffT o ho H.out hs2).mono ?_
    rintro e w1 ⟨rfl, h1, t1⟩
    have H1 := Lib.hid h1
    have T1 := Lib.hid t1
    clear h1 t1
    go_wp2_with fail
    refine (osay_any false _ o (offS_word _) w1).mono ?_
    rintro e w2 ⟨v, rfl, hr, hb⟩
    go_wp2_with fail
    go_ret
    exact GotP.mk H1.out T1.out hr hb
  by_cases c3 : c = 253
  · subst c3
    rw [show gotS M S 253 o = (upd S (256 + o) (onS (M o) (S (256 + o))).1, sayL true (onS (M o) (S (256 + o))).2 o) from rfl]
    go_enter Try.func72, Try.ntmps72
    go_wp2_with fail
    refine (heardOnO o ho H.out hs1).mono ?_
    rintro e w1 ⟨rfl, h1, t1⟩
    have H1 := Lib.hid h1
    have T1 := Lib.hid t1
    clear h1 t1
    go_wp2_with fail
    refine (osay_any true _ o (onS_word _ _) w1).mono ?_
    rintro e w2 ⟨v, rfl, hr, hb⟩
    go_wp2_with fail
    go_ret
    exact GotP.mk H1.out T1.out hr hb
  by_cases c4 : c = 254
  · subst c4
    rw [show gotS M S 254 o = (upd S (256 + o) (offS (S (256 + o))).1, sayL true (offS (S (256 + o))).2 o) from rfl]
    go_enter Try.func72, Try.ntmps72
    go_wp2_with fail
    refine (heardOffO o ho H.out hs1).mono ?_
    rintro e w1 ⟨rfl, h1, t1⟩
    have H1 := Lib.hid h1
    have T1 := Lib.hid t1
    clear h1 t1
    go_wp2_with fail
    refine (osay_any true _ o (offS_word _) w1).mono ?_
    rintro e w2 ⟨v, rfl, hr, hb⟩
    go_wp2_with fail
    go_ret
    exact GotP.mk H1.out T1.out hr hb
  have e0 : gotS M S c o = (S, []) := by unfold gotS; rw [if_neg c1, if_neg c2, if_neg c3, if_neg c4]
  rw [e0]
  have d1 : (c == 251) = false := by simpa using c1
  have d2 : (c == 252) = false := by simpa using c2
  have d3 : (c == 253) = false := by simpa using c3
  have d4 : (c == 254) = false := by simpa using c4
  clear c1 c2 c3 c4 e0
  go_enter Try.func72, Try.ntmps72
  go_wp2_with fail
  go_ret
  exact ⟨_, rfl, RowIn.nil _ _ _, H.out, Turn.refl _ w⟩
/-- .. and an error's number. -/
def WantP (b : Nat) (M : Nat → Bool) (S' : Nat → Nat) (L : List Int) (n : Nat) (w : World) (e : Ending) (w' : World) : Prop :=
  ∃ v, e = .returned (.tuple #[v, .int .i64 n]) ∧ RowIn (fun k => w.heap.size ≤ k) .u8 w' v L ∧ OptAt w' b M S' ∧ Turn (At b) w w'
theorem WantP.mk {b : Nat} {M : Nat → Bool} {S' : Nat → Nat} {L : List Int} {n : Nat} {w w1 w2 : World} {v : Value} (h : OptAt w1 b M S') (t : Turn (At b) w w1) (hr : RowIn (fun k => w1.heap.size ≤ k) .u8 w2 v L) (hb : Below w1.heap.size w1 w2) : WantP b M S' L n w (.returned (.tuple #[v, .int .i64 n])) w2 :=
  ⟨v, rfl, hr.mono fun k hk => Nat.le_trans t.size hk, h.below hb, t.trans (Turn.of_below hb)⟩
theorem want_any (c : Int) (o : Nat) (ho : o < 256) (h : OptAt w b M S) (hs : Le5 S) :
    Calls Try.prog 76 #[.pointer (some ⟨b, 0, none⟩), .int .u8 c, .int .u8 o] w (WantP b M (wantS S c o).1 (wantS S c o).2.1 (wantS S c o).2.2 w) := by
  have hs1 := hs (256 + o)
  have hs2 := hs (768 + o)
  have H := Lib.hid h
  clear h hs
  by_cases c1 : c = 251
  · subst c1
    rw [show wantS S 251 o = (upd S (256 + o) (wantOnS (S (256 + o))).1, sayL true (wantOnS (S (256 + o))).2.1 o, (wantOnS (S (256 + o))).2.2) from rfl]
    go_enter Try.func76, Try.ntmps76
    go_wp2_with fail
    refine (wantOnO o ho H.out hs1).mono ?_
    rintro e w1 ⟨rfl, h1, t1⟩
    have H1 := Lib.hid h1
    have T1 := Lib.hid t1
    clear h1 t1
    go_wp2_with fail
    refine (osay_any true _ o (wantOnS_word _) w1).mono ?_
    rintro e w2 ⟨v, rfl, hr, hb⟩
    go_wp2_with fail
    go_ret2
    exact WantP.mk H1.out T1.out hr hb
  by_cases c2 : c = 252
  · subst c2
    rw [show wantS S 252 o = (upd S (256 + o) (wantOffS (S (256 + o))).1, sayL true (wantOffS (S (256 + o))).2.1 o, (wantOffS (S (256 + o))).2.2) from rfl]
    go_enter Try.func76, Try.ntmps76
    go_wp2_with fail
    refine (wantOffO o ho H.out hs1).mono ?_
    rintro e w1 ⟨rfl, h1, t1⟩
    have H1 := Lib.hid h1
    have T1 := Lib.hid t1
    clear h1 t1
    go_wp2_with fail
    refine (osay_any true _ o (wantOffS_word _) w1).mono ?_
    rintro e w2 ⟨v, rfl, hr, hb⟩
    go_wp2_with fail
    go_ret2
    exact WantP.mk H1.out T1.out hr hb
  by_cases c3 : c = 253
  · subst c3
    rw [show wantS S 253 o = (upd S (768 + o) (wantOnS (S (768 + o))).1, sayL false (wantOnS (S (768 + o))).2.1 o, (wantOnS (S (768 + o))).2.2) from rfl]
    go_enter Try.func76, Try.ntmps76
    go_wp2_with fail
    refine (wantOnT o ho H.out hs2).mono ?_
    rintro e w1 ⟨rfl, h1, t1⟩
    have H1 := Lib.hid h1
    have T1 := Lib.hid t1
    clear h1 t1
    go_wp2_with fail
    refine (osay_any false _ o (wantOnS_word _) w1).mono ?_
    rintro e w2 ⟨v, rfl, hr, hb⟩
    go_wp2_with fail
    go_ret2
    exact WantP.mk H1.out T1.out hr hb
  by_cases c4 : c = 254
  · subst c4
    rw [show wantS S 254 o = (upd S (768 + o) (wantOffS (S (768 + o))).1, sayL false (wantOffS (S (768 + o))).2.1 o, (wantOffS (S (768 + o))).2.2) from rfl]
    go_enter Try.func76, Try.ntmps76
    go_wp2_with fail
    refine (wantOffT o ho H.out hs2).mono ?_
    rintro e w1 ⟨rfl, h1, t1⟩
    have H1 := Lib.hid h1
    have T1 := Lib.hid t1
    clear h1 t1
    go_wp2_with fail
    refine (osay_any false _ o (wantOffS_word _) w1).mono ?_
    rintro e w2 ⟨v, rfl, hr, hb⟩
    go_wp2_with fail
    go_ret2
    exact WantP.mk H1.out T1.out hr hb
  have e0 : wantS S c o = (S, [], 1) := by unfold wantS; rw [if_neg c1, if_neg c2, if_neg c3, if_neg c4]
  rw [e0]
  have d1 : (c == 251) = false := by simpa using c1
  have d2 : (c == 252) = false := by simpa using c2
  have d3 : (c == 253) = false := by simpa using c3
  have d4 : (c == 254) = false := by simpa using c4
  clear c1 c2 c3 c4 e0
  go_enter Try.func76, Try.ntmps76
  go_wp2_with fail
  refine (osay_any false 0 o (by omega) w).mono ?_
  rintro e w2 ⟨v, rfl, hr, hb⟩
  go_wp2_with fail
  go_ret2
  exact WantP.mk H.out (Turn.refl _ w) hr hb
theorem side_any (ours : Bool) : Calls Try.prog 80 #[.pointer (some ⟨b, 0, none⟩), .bool ours] w fun e w' => e = .returned (.pointer (some ⟨b, if ours then 0 else 512, none⟩)) ∧ w = w' := by
  cases ours
  all_goals
    go_enter Try.func80, Try.ntmps80
    go_wp2
    go_ret
    exact ⟨rfl, rfl⟩
/-- The state of an option. -/
def stOf (S : Nat → Nat) (ours : Bool) (o : Nat) : Nat := S (if ours then 256 + o else 768 + o)
theorem state_any (ours : Bool) (o : Nat) (ho : o < 256) (h : OptAt w b M S) :
    Calls Try.prog 39 #[.pointer (some ⟨b, 0, none⟩), .bool ours, .int .u8 o] w fun e w' => e = .returned (.int .i64 (stOf S ours o)) ∧ w = w' := by
  have hc1 := h.st (256 + o) (by omega) (by omega)
  have hc2 := h.st (768 + o) (by omega) (by omega)
  clear h
  cases ours
  all_goals
    go_enter Try.func39, Try.ntmps39
    go_wp2
    go_ret
    exact ⟨rfl, rfl⟩
theorem on_any (ours : Bool) (o : Nat) (ho : o < 256) (h : OptAt w b M S) :
    Calls Try.prog 74 #[.pointer (some ⟨b, 0, none⟩), .bool ours, .int .u8 o] w fun e w' => e = .returned (.bool (decide (stOf S ours o = 1))) ∧ w = w' := by
  have H := Lib.hid h
  clear h
  obtain ⟨s, hs⟩ : ∃ s, s = stOf S ours o := ⟨_, rfl⟩
  have HS := Lib.hid hs
  rw [← hs]
  clear hs
  by_cases h1 : s = 1
  · subst h1
    go_enter Try.func74, Try.ntmps74
    go_wp2_with (go_at_call 39; refine (state_any _ _ ho H.out).mono ?_; rintro e w' ⟨rfl, rfl⟩; rw [← HS.out])
    go_ret
    exact ⟨rfl, rfl⟩
  · have hd : ((s : Int) == 1) = false := by simp; omega
    rw [decide_eq_false h1]
    go_enter Try.func74, Try.ntmps74
    go_wp2_with (go_at_call 39; refine (state_any _ _ ho H.out).mono ?_; rintro e w' ⟨rfl, rfl⟩; rw [← HS.out])
    go_ret
    exact ⟨rfl, rfl⟩
end
end Go.Proofs.Ytimidoaafllnkaa.Opt
