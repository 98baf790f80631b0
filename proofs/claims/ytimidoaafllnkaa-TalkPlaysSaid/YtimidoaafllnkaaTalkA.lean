/-
  A talk in memory: its name, its options, whether the name was told.
-/
import Derived.Test.YtimidoaafllnkaaOptRaw
import Derived.Test.YtimidoaafllnkaaOptN
import Derived.Test.YtimidoaafllnkaaBytes
import Derived.Deep.WholeRow
namespace Go.Proofs.Ytimidoaafllnkaa.Talk
open Go.RowKit Base Opt
set_option linter.unusedVariables false

def talkC (nm : ByteArray) (M : Nat → Bool) (S : Nat → Nat) (nd : Bool) : Array Value := (#[Value.string nm] ++ optC M S).push (.bool nd)
def TalkAt (w : World) (b : Nat) (nm : ByteArray) (M : Nat → Bool) (S : Nat → Nat) (nd : Bool) : Prop := w.heap[b]? = some (.cells (talkC nm M S nd) 115 (0, 0))
section
variable (nm : ByteArray) (M : Nat → Bool) (S : Nat → Nat) (nd : Bool)
theorem talkC_size : (talkC nm M S nd).size = 1026 := by simp [talkC, optC_size]
theorem talkC_at (j : Nat) : (talkC nm M S nd)[j]? = if j = 0 then some (.string nm) else if j < 1025 then some (cellOf M S (j - 1)) else if j = 1025 then some (.bool nd) else none := by
  unfold talkC
  have hs : (#[Value.string nm] ++ optC M S).size = 1025 := by simp [optC_size]
  rw [Array.getElem?_push, hs]
  by_cases h0 : j = 0
  · subst h0; rw [if_neg (by omega), if_pos rfl, Array.getElem?_append_left (by simp)]; rfl
  · rw [if_neg h0]
    by_cases h1 : j = 1025
    · rw [if_pos h1, if_neg (by omega), if_pos h1]
    · rw [if_neg h1]
      rw [Array.getElem?_append_right (by simp; omega)]
      rw [show j - (#[Value.string nm] : Array Value).size = j - 1 by simp, optC_at]
      by_cases h2 : j < 1025
      · rw [if_pos (by omega), if_pos h2]
      · rw [if_neg (by omega), if_neg h2, if_neg h1]
theorem talkC_st (i v : Nat) (h : i / 256 % 2 = 1) (hi : i < 1024) : (talkC nm M S nd).setIfInBounds (1 + i) (.int .i64 v) = talkC nm M (upd S i v) nd := by
  apply Array.ext_getElem?
  intro j
  rw [Array.getElem?_setIfInBounds, talkC_at, talkC_at, talkC_size]
  by_cases e : 1 + i = j
  · subst e
    rw [if_pos rfl, if_pos (by omega), if_neg (by omega), if_pos (by omega)]
    simp [cellOf, h, upd]
  · rw [if_neg e]
    by_cases h0 : j = 0
    · rw [if_pos h0, if_pos h0]
    · rw [if_neg h0, if_neg h0]
      by_cases h1 : j < 1025
      · rw [if_pos h1, if_pos h1]
        simp [cellOf, upd, show ¬ j - 1 = i by omega]
      · rw [if_neg h1, if_neg h1]
theorem talkC_nd (x : Bool) : (talkC nm M S nd).setIfInBounds 1025 (.bool x) = talkC nm M S x := by
  apply Array.ext_getElem?
  intro j
  rw [Array.getElem?_setIfInBounds, talkC_at, talkC_at, talkC_size]
  by_cases e : 1025 = j
  · subst e; simp
  · rw [if_neg e]
    by_cases h0 : j = 0
    · rw [if_pos h0, if_pos h0]
    · rw [if_neg h0, if_neg h0]
      by_cases h1 : j < 1025
      · rw [if_pos h1, if_pos h1]
      · rw [if_neg h1, if_neg h1, if_neg (fun h => e h.symm), if_neg (fun h => e h.symm)]
end
section
variable {w w' : World} {b : Nat} {nm : ByteArray} {M : Nat → Bool} {S : Nat → Nat} {nd : Bool}
theorem TalkAt.lt (h : TalkAt w b nm M S nd) : b < w.heap.size := lt_of_block h
theorem TalkAt.keep {T : Nat → Prop} (h : TalkAt w b nm M S nd) (t : Turn T w w') (hT : ¬ T b) : TalkAt w' b nm M S nd := (t.block b h.lt hT).trans h
theorem TalkAt.below (h : TalkAt w b nm M S nd) (t : Below w.heap.size w w') : TalkAt w' b nm M S nd := (t.block b h.lt).trans h
theorem TalkAt.drewN (h : TalkAt w b nm M S nd) (n : Nat) : TalkAt (w.drewN n) b nm M S nd := h
theorem TalkAt.drew (h : TalkAt w b nm M S nd) : TalkAt w.drew b nm M S nd := h
theorem TalkAt.cell (h : TalkAt w b nm M S nd) (j : Nat) : w.cell? ⟨b, j, none⟩ = if j = 0 then some (.string nm) else if j < 1025 then some (cellOf M S (j - 1)) else if j = 1025 then some (.bool nd) else none := by
  rw [← talkC_at]
  simp [World.cell?, show w.heap[b]? = _ from h]
theorem TalkAt.name (h : TalkAt w b nm M S nd) : w.cell? ⟨b, 0, none⟩ = some (.string nm) := by rw [h.cell]; rfl
theorem TalkAt.told (h : TalkAt w b nm M S nd) : w.cell? ⟨b, 1025, none⟩ = some (.bool nd) := by rw [h.cell]; rfl
theorem TalkAt.may (h : TalkAt w b nm M S nd) (j : Nat) (hj : j < 1024) (hm : j / 256 % 2 = 0) : w.cell? ⟨b, 1 + j, none⟩ = some (.bool (M j)) := by
  rw [h.cell, if_neg (by omega), if_pos (by omega)]
  simp [cellOf, hm]
theorem TalkAt.st (h : TalkAt w b nm M S nd) (j : Nat) (hj : j < 1024) (hm : j / 256 % 2 = 1) : w.cell? ⟨b, 1 + j, none⟩ = some (.int .i64 (S j)) := by
  rw [h.cell, if_neg (by omega), if_pos (by omega)]
  simp [cellOf, hm]
theorem TalkAt.frozen (h : TalkAt w b nm M S nd) (o : Nat) : w.frozen? ⟨b, o, none⟩ = false := by simp [World.frozen?, show w.heap[b]? = _ from h]
theorem TalkAt.set (h : TalkAt w b nm M S nd) (i v : Nat) (hm : i / 256 % 2 = 1) (hi : i < 1024) : TalkAt (w.setCell ⟨b, 1 + i, none⟩ (.int .i64 v)) b nm M (upd S i v) nd := by
  have := heap_set h (1 + i) (.int .i64 v)
  rw [talkC_st _ _ _ _ i v hm hi] at this
  exact this
theorem TalkAt.setNd (h : TalkAt w b nm M S nd) (x : Bool) : TalkAt (w.setCell ⟨b, 1025, none⟩ (.bool x)) b nm M S x := by
  have := heap_set h 1025 (.bool x)
  rw [talkC_nd] at this
  exact this
/-! ### The calls of its options -/
theorem side_talk (ours : Bool) : Calls Try.prog 80 #[.pointer (some ⟨b, 1, none⟩), .bool ours] w fun e w' => e = .returned (.pointer (some ⟨b, if ours then 1 else 513, none⟩)) ∧ w = w' := by
  cases ours
  all_goals
    go_enter Try.func80, Try.ntmps80
    go_wp2
    go_ret
    exact ⟨rfl, rfl⟩
theorem state_talk (ours : Bool) (o : Nat) (ho : o < 256) (h : TalkAt w b nm M S nd) :
    Calls Try.prog 39 #[.pointer (some ⟨b, 1, none⟩), .bool ours, .int .u8 o] w fun e w' => e = .returned (.int .i64 (stOf S ours o)) ∧ w = w' := by
  have hc1 := h.st (256 + o) (by omega) (by omega)
  have hc2 := h.st (768 + o) (by omega) (by omega)
  have hc1 : w.cell? ⟨b, 257 + o, none⟩ = some (.int .i64 (S (256 + o))) := by rw [← hc1]; congr 2; omega
  have hc2 : w.cell? ⟨b, 769 + o, none⟩ = some (.int .i64 (S (768 + o))) := by rw [← hc2]; congr 2; omega
  clear h
  cases ours
  all_goals
    go_enter Try.func39, Try.ntmps39
    go_wp2
    go_ret
    exact ⟨rfl, rfl⟩
theorem on_talk (ours : Bool) (o : Nat) (ho : o < 256) (h : TalkAt w b nm M S nd) :
    Calls Try.prog 74 #[.pointer (some ⟨b, 1, none⟩), .bool ours, .int .u8 o] w fun e w' => e = .returned (.bool (decide (stOf S ours o = 1))) ∧ w = w' := by
  have H := Lib.hid h
  clear h
  obtain ⟨s, hs⟩ : ∃ s, s = stOf S ours o := ⟨_, rfl⟩
  have HS := Lib.hid hs
  rw [← hs]
  clear hs
  by_cases h1 : s = 1
  · subst h1
    go_enter Try.func74, Try.ntmps74
    go_wp2_with (go_at_call 39; refine (state_talk _ _ ho H.out).mono ?_; rintro e w' ⟨rfl, rfl⟩; rw [← HS.out])
    go_ret
    exact ⟨rfl, rfl⟩
  · have hd : ((s : Int) == 1) = false := by simp; omega
    rw [decide_eq_false h1]
    go_enter Try.func74, Try.ntmps74
    go_wp2_with (go_at_call 39; refine (state_talk _ _ ho H.out).mono ?_; rintro e w' ⟨rfl, rfl⟩; rw [← HS.out])
    go_ret
    exact ⟨rfl, rfl⟩
/-- The option 'terminal type' is on on our side. -/
def typeOn (S : Nat → Nat) : Bool := decide (stOf S true 24 = 1)
theorem forget_any (h : TalkAt w b nm M S nd) :
    Calls Try.prog 71 #[.pointer (some ⟨b, 0, none⟩)] w fun e w' => e = .returned (.tuple #[]) ∧ TalkAt w' b nm M S (nd && typeOn S) ∧ Turn (At b) w w' := by
  have H := Lib.hid h
  have hc := h.told
  have hf := h.frozen 1025
  have HON := Lib.hid (on_talk true 24 (by omega) h)
  clear h
  unfold typeOn
  obtain ⟨t, ht⟩ : ∃ t, t = decide (stOf S true 24 = 1) := ⟨_, rfl⟩
  rw [← ht] at HON ⊢
  clear ht
  cases t
  · go_enter Try.func71, Try.ntmps71
    go_wp2_with fail
    refine HON.out.mono ?_
    rintro e w' ⟨rfl, rfl⟩
    go_wp2_with fail
    refine bodyPost_end (results_none rfl _ _ _) rfl ?_
    exact ⟨rfl, by rw [Bool.and_false]; exact H.out.setNd false, turn_set _ _ _ _⟩
  · go_enter Try.func71, Try.ntmps71
    go_wp2_with fail
    refine HON.out.mono ?_
    rintro e w' ⟨rfl, rfl⟩
    go_wp2_with fail
    refine bodyPost_end (results_none rfl _ _ _) rfl ?_
    exact ⟨rfl, by rw [Bool.and_true]; exact H.out, Turn.refl _ _⟩
theorem name_any (h : TalkAt w b nm M S nd) : Calls Try.prog 37 #[.pointer (some ⟨b, 0, none⟩)] w fun e w' => e = .returned (.string nm) ∧ w = w' := by
  have hc := h.name
  clear h
  go_enter Try.func37, Try.ntmps37
  go_wp2
  go_ret
  exact ⟨rfl, rfl⟩
theorem named_any (h : TalkAt w b nm M S nd) :
    Calls Try.prog 36 #[.pointer (some ⟨b, 0, none⟩)] w fun e w' => e = .returned (.bool (nd && typeOn S)) ∧ TalkAt w' b nm M S (nd && typeOn S) ∧ Turn (At b) w w' := by
  have HF := Lib.hid (forget_any h)
  clear h
  go_enter Try.func36, Try.ntmps36
  go_wp2_with fail
  refine HF.out.mono ?_
  rintro e w1 ⟨rfl, h1, t1⟩
  have hc := h1.told
  have H1 := Lib.hid h1
  have T1 := Lib.hid t1
  clear h1 t1
  go_wp2_with fail
  go_ret
  exact ⟨rfl, H1.out, T1.out⟩
theorem options_any (h : TalkAt w b nm M S nd) :
    Calls Try.prog 38 #[.pointer (some ⟨b, 0, none⟩)] w fun e w' => e = .returned (.pointer (some ⟨b, 1, none⟩)) ∧ TalkAt w' b nm M S (nd && typeOn S) ∧ Turn (At b) w w' := by
  have HF := Lib.hid (forget_any h)
  clear h
  go_enter Try.func38, Try.ntmps38
  go_wp2_with fail
  refine HF.out.mono ?_
  rintro e w1 ⟨rfl, h1, t1⟩
  have H1 := Lib.hid h1
  have T1 := Lib.hid t1
  clear h1 t1
  go_wp2_with fail
  go_ret
  exact ⟨rfl, H1.out, T1.out⟩
theorem extended_any (h : TalkAt w b nm M S nd) : Calls Try.prog 34 #[.pointer (some ⟨b, 0, none⟩)] w fun e w' => e = .returned (.bool (decide (stOf S true 40 = 1))) ∧ w = w' := by
  have HON := Lib.hid (on_talk true 40 (by omega) h)
  clear h
  go_enter Try.func34, Try.ntmps34
  go_wp2_with fail
  refine HON.out.mono ?_
  rintro e w' ⟨rfl, rfl⟩
  go_wp2_with fail
  go_ret
  exact ⟨rfl, rfl⟩
theorem both_any (o : Nat) (ho : o < 256) (h : TalkAt w b nm M S nd) : Calls Try.prog 79 #[.pointer (some ⟨b, 0, none⟩), .int .u8 o] w fun e w' => e = .returned (.bool (decide (stOf S true o = 1) && decide (stOf S false o = 1))) ∧ w = w' := by
  have H1 := Lib.hid (on_talk true o ho h)
  have H2 := Lib.hid (on_talk false o ho h)
  clear h
  generalize decide (stOf S true o = 1) = x at H1 ⊢
  generalize decide (stOf S false o = 1) = y at H2 ⊢
  cases x
  all_goals
    go_enter Try.func79, Try.ntmps79
    go_wp2_with fail
    refine H1.out.mono ?_
    rintro e w' ⟨rfl, rfl⟩
    go_wp2_with (go_at_call 74; refine H2.out.mono ?_; rintro e w' ⟨rfl, rfl⟩)
    go_ret
    exact ⟨rfl, rfl⟩
def basicB (S : Nat → Nat) : Bool := (decide (stOf S true 0 = 1) && decide (stOf S false 0 = 1)) && (decide (stOf S true 25 = 1) && decide (stOf S false 25 = 1))
theorem basic_any (h : TalkAt w b nm M S nd) :
    Calls Try.prog 32 #[.pointer (some ⟨b, 0, none⟩)] w fun e w' => e = .returned (.bool (basicB S && (nd && typeOn S))) ∧ (TalkAt w' b nm M S nd ∨ TalkAt w' b nm M S (nd && typeOn S)) ∧ Turn (At b) w w' := by
  have H := Lib.hid h
  have H1 := Lib.hid (both_any 0 (by omega) h)
  have H2 := Lib.hid (both_any 25 (by omega) h)
  have H3 := Lib.hid (named_any h)
  clear h
  unfold basicB
  generalize (decide (stOf S true 0 = 1) && decide (stOf S false 0 = 1)) = x at H1 ⊢
  generalize (decide (stOf S true 25 = 1) && decide (stOf S false 25 = 1)) = y at H2 ⊢
  cases x
  · go_enter Try.func32, Try.ntmps32
    go_wp2_with fail
    refine H1.out.mono ?_
    rintro e w' ⟨rfl, rfl⟩
    go_wp2_with fail
    go_ret
    exact ⟨rfl, .inl H.out, Turn.refl _ _⟩
  cases y
  · go_enter Try.func32, Try.ntmps32
    go_wp2_with fail
    refine H1.out.mono ?_
    rintro e w' ⟨rfl, rfl⟩
    go_wp2_with fail
    refine H2.out.mono ?_
    rintro e w' ⟨rfl, rfl⟩
    go_wp2_with fail
    go_ret
    exact ⟨rfl, .inl H.out, Turn.refl _ _⟩
  · go_enter Try.func32, Try.ntmps32
    go_wp2_with fail
    refine H1.out.mono ?_
    rintro e w' ⟨rfl, rfl⟩
    go_wp2_with fail
    refine H2.out.mono ?_
    rintro e w' ⟨rfl, rfl⟩
    go_wp2_with fail
    refine H3.out.mono ?_
    rintro e w1 ⟨rfl, h1, t1⟩
    have H1' := Lib.hid h1
    have T1 := Lib.hid t1
    clear h1 t1
    go_wp2_with fail
    go_ret
    exact ⟨rfl, .inr H1'.out, T1.out⟩
end
end Go.Proofs.Ytimidoaafllnkaa.Talk
