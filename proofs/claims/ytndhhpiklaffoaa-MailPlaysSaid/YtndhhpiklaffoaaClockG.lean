/-
  Clocks, plainly; contracts of Drop, Left and Set.
-/
import Derived.Test.YtndhhpiklaffoaaClockF
namespace Go.Proofs.Ytndhhpiklaffoaa.Clock
open Go.RowKit
open Mail (Turn ret_int ret_bool)
set_option linter.unusedVariables false

/-! ### Plainly -/
def MT : Int := 1099511627776
/-- Which of two alarms comes first. -/
def Lt (p q : Int × Int) : Prop := p.1 < q.1 ∨ p.1 = q.1 ∧ p.2 < q.2
instance (p q : Int × Int) : Decidable (Lt p q) := by unfold Lt; exact inferInstance
theorem ordI_neg (p q : Int × Int) : ordI p q < 0 ↔ Lt p q := by
  unfold ordI orI cmpI Lt
  constructor
  · intro h
    by_cases h1 : p.1 < q.1
    · exact .inl h1
    · rw [if_neg h1] at h
      by_cases h2 : q.1 < p.1
      · rw [if_pos h2] at h; simp at h
      · rw [if_neg h2, if_pos rfl] at h
        by_cases h3 : p.2 < q.2
        · exact .inr ⟨by omega, h3⟩
        · rw [if_neg h3] at h
          split at h <;> omega
  · rintro (h | ⟨h1, h2⟩)
    · rw [if_pos h]; simp
    · rw [if_neg (show ¬ p.1 < q.1 by omega), if_neg (show ¬ q.1 < p.1 by omega), if_pos rfl, if_pos h2]; omega
theorem Lt.trans {p q r : Int × Int} (h : Lt p q) (k : Lt q r) : Lt p r := by
  unfold Lt at *
  omega
theorem Lt.of_not {p q : Int × Int} (h : ¬ Lt p q) (hid : p.2 ≠ q.2) : Lt q p := by
  unfold Lt at *
  omega
/-- What is always so of a clock. -/
structure WF (now : Int) (L : List (Int × Int)) : Prop where
  n0 : 0 ≤ now
  n1 : now ≤ MT
  due : ∀ p ∈ L, 0 ≤ p.1 ∧ p.1 ≤ MT
  sorted : L.Pairwise Lt
  ids : L.Pairwise fun p q => p.2 ≠ q.2
def dropL (L : List (Int × Int)) (id : Int) : List (Int × Int) := L.filter fun p => p.2 != id
def insL (L : List (Int × Int)) (p : Int × Int) : List (Int × Int) := L.takeWhile (fun q => decide (Lt q p)) ++ p :: L.dropWhile (fun q => decide (Lt q p))
theorem mono_of {L : List (Int × Int)} (hs : L.Pairwise Lt) (t : Int × Int) : Mono L t := by
  intro i j hij hj h
  rw [ordI_neg] at h ⊢
  rcases Nat.lt_or_eq_of_le hij with hlt | rfl
  · have := List.pairwise_iff_getElem.1 hs i j (by omega) hj hlt
    simp only [List.getD, List.getElem?_eq_getElem hj, List.getElem?_eq_getElem (show i < L.length by omega), Option.getD_some] at h ⊢
    exact this.trans h
  · exact h
theorem split_at {L : List (Int × Int)} {p : Int × Int} {i : Nat} (hi : i ≤ L.length) (h1 : ∀ l, l < i → ordI (L.getD l (0, 0)) p < 0) (h2 : ∀ l, i ≤ l → l < L.length → 0 ≤ ordI (L.getD l (0, 0)) p) :
    L.take i ++ p :: L.drop i = insL L p := by
  have h : L.takeWhile (fun q => decide (Lt q p)) = L.take i ∧ L.dropWhile (fun q => decide (Lt q p)) = L.drop i := by
    induction L generalizing i with
    | nil => simp
    | cons q L ih =>
      match i with
      | 0 =>
        have := h2 0 (by omega) (by simp)
        have hn : ¬ Lt q p := fun h => by rw [← ordI_neg] at h; simp at this; omega
        simp [hn]
      | i + 1 =>
        have hq : Lt q p := by rw [← ordI_neg]; simpa using h1 0 (by omega)
        have := ih (i := i) (by simpa using hi) (fun l hl => by simpa using h1 (l + 1) (by omega)) (fun l hl hl2 => by simpa using h2 (l + 1) (by omega) (by simpa using hl2))
        simp [hq, this]
  unfold insL
  rw [h.1, h.2]
/-- Without unlike places of one number, the first place is the only one. -/
theorem dropL_at {L : List (Int × Int)} {id : Int} (hu : L.Pairwise fun p q => p.2 ≠ q.2) (hh : has L id = true) : L.take (fi L id) ++ L.drop (fi L id + 1) = dropL L id := by
  unfold has at hh
  have hlt : fi L id < L.length := by simpa using hh
  unfold fi dropL at *
  induction L with
  | nil => simp at hlt
  | cons q L ih =>
    rw [List.pairwise_cons] at hu
    by_cases hq : q.2 = id
    · have : (q :: L).findIdx (fun p => p.2 == id) = 0 := by simp [List.findIdx_cons, hq]
      rw [this]
      simp [hq]
      symm
      rw [List.filter_eq_self]
      intro r hr
      have := hu.1 r hr
      simp; omega
    · have hf : (q :: L).findIdx (fun p => p.2 == id) = L.findIdx (fun p => p.2 == id) + 1 := by
        have hb : (q.2 == id) = false := by simpa using hq
        simp [List.findIdx_cons, hb]
      rw [hf] at hlt hh ⊢
      have hl' : L.findIdx (fun p => p.2 == id) < L.length := by simpa using hlt
      have := ih hu.2 (by simpa using hl') hl'
      simp [hq, this]
theorem dropL_none {L : List (Int × Int)} {id : Int} (hh : has L id = false) : dropL L id = L := by
  unfold has fi at hh
  unfold dropL
  rw [List.filter_eq_self]
  intro p hp
  have h : L.length ≤ L.findIdx fun p => p.2 == id := Nat.not_lt.1 (of_decide_eq_false hh)
  have := List.findIdx_eq_length.1 (Nat.le_antisymm List.findIdx_le_length h) p hp
  simpa using this
theorem has_iff {L : List (Int × Int)} {id : Int} : has L id = true ↔ ∃ p ∈ L, p.2 = id := by
  unfold has fi
  rw [decide_eq_true_iff, List.findIdx_lt_length]
  simp

section
variable {w : World} {b : Nat} {now : Int} {L : List (Int × Int)}
theorem drop_any (id : Int) (h : ClockAt w b now L) (hu : L.Pairwise fun p q => p.2 ≠ q.2) :
    Calls Try.prog 31 #[.pointer (some ⟨b, 0, none⟩), .int .i64 id] w fun e w' => e = .returned (.bool (has L id)) ∧ ClockAt w' b now (dropL L id) ∧ Turn (At b) w w' := by
  cases hh : has L id with
  | false =>
    have hf := find_any (id := id) w h
    rw [hh] at hf
    rw [dropL_none hh]
    have HF := Lib.hid hf
    clear hh hf
    go_enter Try.func31, Try.ntmps31
    go_wp2_with (go_at_call 44; refine HF.out.mono ?_; rintro e w' ⟨rfl, hb⟩)
    go_ret
    exact ⟨rfl, h.below hb, Mail.Turn.of_below hb⟩
  | true =>
    have hf := find_any (id := id) w h
    rw [← dropL_at hu hh]
    have hl : fi L id < L.length := by simpa [has] using hh
    have hi : idxI L id = fi L id := by unfold idxI; rw [hh]; rfl
    rw [hh, hi] at hf
    have hL := h.le
    obtain ⟨k, hk⟩ : ∃ k, k = fi L id := ⟨_, rfl⟩
    rw [← hk] at hf hl ⊢
    have HF := Lib.hid hf
    have HH := Lib.hid h
    clear hh hf hi hk h
    go_enter Try.func31, Try.ntmps31
    go_wp2_with (first
      | (go_at_call 44; refine HF.out.mono ?_; rintro e w1 ⟨rfl, hb⟩)
      | (go_at_call 47; refine (cut_any k (k + 1) w1 (HH.out.below hb) (by omega) (by omega)).mono ?_; rintro e w2 ⟨rfl, hc, ht⟩))
    go_ret
    exact ⟨rfl, hc, (Mail.Turn.of_below hb).trans ht⟩
end

/-! ### What stays so -/
theorem WF.drop {now : Int} {L : List (Int × Int)} (h : WF now L) (id : Int) : WF now (dropL L id) :=
  ⟨h.n0, h.n1, fun p hp => h.due p (List.mem_filter.1 hp).1, h.sorted.filter _, h.ids.filter _⟩
theorem lateI_bd {now t : Int} (h0 : 0 ≤ now) (h1 : now ≤ MT) (h2 : 0 ≤ t) : now ≤ lateI now t ∧ lateI now t ≤ MT := by
  unfold lateI MT at *
  omega
theorem mem_insL {L : List (Int × Int)} {p q : Int × Int} : q ∈ insL L p ↔ q = p ∨ q ∈ L := by
  unfold insL
  rw [List.mem_append, List.mem_cons]
  have : q ∈ L ↔ q ∈ L.takeWhile (fun q => decide (Lt q p)) ∨ q ∈ L.dropWhile (fun q => decide (Lt q p)) := by
    rw [← List.mem_append, List.takeWhile_append_dropWhile]
  rw [this]
  constructor
  · rintro (h | h | h)
    · exact .inr (.inl h)
    · exact .inl h
    · exact .inr (.inr h)
  · rintro (h | h | h)
    · exact .inr (.inl h)
    · exact .inl h
    · exact .inr (.inr h)
theorem insL_length (L : List (Int × Int)) (p : Int × Int) : (insL L p).length = L.length + 1 := by
  unfold insL
  have := congrArg List.length (List.takeWhile_append_dropWhile (p := fun q => decide (Lt q p)) (l := L))
  rw [List.length_append] at this
  rw [List.length_append, List.length_cons]
  omega
theorem sorted_insL {L : List (Int × Int)} {p : Int × Int} (hs : L.Pairwise Lt) (hid : ∀ q ∈ L, q.2 ≠ p.2) : (insL L p).Pairwise Lt := by
  induction L with
  | nil => simp [insL]
  | cons q L ih =>
    rw [List.pairwise_cons] at hs
    by_cases hq : Lt q p
    · have e : insL (q :: L) p = q :: insL L p := by simp [insL, hq]
      rw [e, List.pairwise_cons]
      refine ⟨fun r hr => ?_, ih hs.2 (fun r hr => hid r (by simp [hr]))⟩
      rcases mem_insL.1 hr with rfl | hr
      · exact hq
      · exact hs.1 r hr
    · have e : insL (q :: L) p = p :: q :: L := by simp [insL, hq]
      have hp : Lt p q := Lt.of_not hq (hid q (by simp))
      rw [e, List.pairwise_cons, List.pairwise_cons]
      refine ⟨fun r hr => ?_, hs⟩
      rcases List.mem_cons.1 hr with rfl | hr
      · exact hp
      · exact hp.trans (hs.1 r hr)
theorem ids_insL {L : List (Int × Int)} {p : Int × Int} (hs : L.Pairwise fun p q => p.2 ≠ q.2) (hid : ∀ q ∈ L, q.2 ≠ p.2) : (insL L p).Pairwise fun p q => p.2 ≠ q.2 := by
  induction L with
  | nil => simp [insL]
  | cons q L ih =>
    rw [List.pairwise_cons] at hs
    by_cases hq : Lt q p
    · have e : insL (q :: L) p = q :: insL L p := by simp [insL, hq]
      rw [e, List.pairwise_cons]
      refine ⟨fun r hr => ?_, ih hs.2 (fun r hr => hid r (by simp [hr]))⟩
      rcases mem_insL.1 hr with rfl | hr
      · exact hid q (by simp)
      · exact hs.1 r hr
    · have e : insL (q :: L) p = p :: q :: L := by simp [insL, hq]
      rw [e, List.pairwise_cons, List.pairwise_cons]
      exact ⟨fun r hr => fun e => hid r hr e.symm, hs⟩
theorem dropL_id {L : List (Int × Int)} {id : Int} : ∀ q ∈ dropL L id, q.2 ≠ id := by
  intro q hq
  have := (List.mem_filter.1 hq).2
  simpa using this
theorem WF.ins {now : Int} {L : List (Int × Int)} (h : WF now L) (id due : Int) (h0 : 0 ≤ due) (h1 : due ≤ MT) : WF now (insL (dropL L id) (due, id)) := by
  have hd := h.drop id
  refine ⟨h.n0, h.n1, fun p hp => ?_, sorted_insL hd.sorted dropL_id, ids_insL hd.ids dropL_id⟩
  rcases mem_insL.1 hp with rfl | hp
  · exact ⟨h0, h1⟩
  · exact hd.due p hp
theorem dropL_length {L : List (Int × Int)} {id : Int} (hh : has L id = true) : (dropL L id).length < L.length := by
  obtain ⟨p, hp, he⟩ := has_iff.1 hh
  unfold dropL
  rw [List.length_filter_lt_length_iff_exists]
  exact ⟨p, hp, by simp [he]⟩

/-! ### Left and Set -/
def leftI (now : Int) (L : List (Int × Int)) (id : Int) : Int := if has L id then (L.getD (fi L id) (0, 0)).1 - now else 0
def setE (L : List (Int × Int)) (id t : Int) : Int := if t < 0 then 1 else if has L id = false ∧ L.length = 64 then 3 else 0
def putA (now : Int) (L : List (Int × Int)) (id t : Int) : List (Int × Int) := if t < 0 then L else if has L id = false ∧ L.length = 64 then L else insL (dropL L id) (lateI now t, id)
theorem WF.put {now : Int} {L : List (Int × Int)} (h : WF now L) (id t : Int) : WF now (putA now L id t) := by
  unfold putA
  by_cases h1 : t < 0
  · rw [if_pos h1]; exact h
  · rw [if_neg h1]
    split
    · exact h
    · have := lateI_bd h.n0 h.n1 (show 0 ≤ t by omega)
      have := h.n0
      exact h.ins id _ (by omega) (by omega)
section
variable {w : World} {b : Nat} {now : Int} {L : List (Int × Int)}
theorem left_any (id : Int) (h : ClockAt w b now L) (wf : WF now L) :
    Calls Try.prog 34 #[.pointer (some ⟨b, 0, none⟩), .int .i64 id] w fun e w' => e = .returned (.tuple #[.int .i64 (leftI now L id), .bool (has L id)]) ∧ Below w.heap.size w w' := by
  have hf := find_any (id := id) w h
  have HF := Lib.hid hf
  have hw := wf
  clear hf
  cases hh : has L id with
  | false =>
    rw [hh] at HF
    have hl : leftI now L id = 0 := by unfold leftI; rw [hh]; rfl
    rw [hl]
    clear hh hl
    go_enter Try.func34, Try.ntmps34
    go_wp2_with (go_at_call 44; refine HF.out.mono ?_; rintro e w' ⟨rfl, hb⟩)
    go_ret2
    exact ⟨rfl, hb⟩
  | true =>
    have hlt : fi L id < L.length := by simpa [has] using hh
    have hi : idxI L id = fi L id := by unfold idxI; rw [hh]; rfl
    rw [hh, hi] at HF
    obtain ⟨p, hp⟩ : ∃ p, p = L.getD (fi L id) (0, 0) := ⟨_, rfl⟩
    have hl : leftI now L id = p.1 - now := by unfold leftI; rw [hh, ← hp]; rfl
    have hpd : 0 ≤ p.1 ∧ p.1 ≤ MT := by
      refine wf.due p ?_
      rw [hp]
      simp [List.getD, List.getElem?_eq_getElem hlt]
    rw [hl]
    have h0 := wf.n0
    have h1 := wf.n1
    unfold MT at h1 hpd
    obtain ⟨k, hk⟩ : ∃ k, k = fi L id := ⟨_, rfl⟩
    have hL := h.le
    rw [← hk] at HF hlt hp
    have gk : (k : Int) < 64 := by omega
    have HP := Lib.hid hp
    have HH := Lib.hid h
    obtain ⟨q0, q1⟩ := hpd
    clear hh hi hl hp hk h wf hw
    go_enter Try.func34, Try.ntmps34
    go_wp2_with (go_at_call 44; refine HF.out.mono ?_; rintro e w' ⟨rfl, hb⟩)
    have hc := HH.out.below hb
    have d0 := hc.cellNow
    have d1 := hc.cellDue k hlt
    rw [← HP.out] at d1
    clear hc
    go_quiet (fail)
    go_wp2
    go_ret2
    exact ⟨rfl, below_drewN hb _⟩
theorem set_any (id t : Int) (h : ClockAt w b now L) (wf : WF now L) :
    Calls Try.prog 27 #[.pointer (some ⟨b, 0, none⟩), .int .i64 id, .int .i64 t] w fun e w' => e = .returned (.int .i64 (setE L id t)) ∧ ClockAt w' b now (putA now L id t) ∧ Turn (At b) w w' := by
  by_cases ht : t < 0
  · have e1 : setE L id t = 1 := by unfold setE; rw [if_pos ht]
    have e2 : putA now L id t = L := by unfold putA; rw [if_pos ht]
    rw [e1, e2]
    clear e1 e2
    go_enter Try.func27, Try.ntmps27
    go_wp2
    go_ret
    exact ⟨rfl, h, Mail.Turn.refl _ _⟩
  · have h0 : 0 ≤ t := by omega
    have hf := find_any (id := id) w h
    have hfull : has L id = false ∧ L.length = 64 ∨ ¬ (has L id = false ∧ L.length = 64) := by
      by_cases hx : has L id = false ∧ L.length = 64
      · exact .inl hx
      · exact .inr hx
    rcases hfull with ⟨hh, hn⟩ | hnf
    · have e1 : setE L id t = 3 := by unfold setE; rw [if_neg ht, if_pos ⟨hh, hn⟩]
      have e2 : putA now L id t = L := by unfold putA; rw [if_neg ht, if_pos ⟨hh, hn⟩]
      rw [e1, e2]
      rw [hh] at hf
      have HF := Lib.hid hf
      have HN := Lib.hid hn
      clear hf e1 e2 hh hn ht
      go_enter Try.func27, Try.ntmps27
      go_wp2_with (go_at_call 44; refine HF.out.mono ?_; rintro e w' ⟨rfl, hb⟩; have hc : w'.cell? ⟨b, 129, none⟩ = some (.int .i64 64) := by (have := (h.below hb).cellMany; rw [HN.out] at this; exact this))
      go_ret
      exact ⟨rfl, h.below hb, Mail.Turn.of_below hb⟩
    · have e1 : setE L id t = 0 := by unfold setE; rw [if_neg ht, if_neg hnf]
      have e2 : putA now L id t = insL (dropL L id) (lateI now t, id) := by unfold putA; rw [if_neg ht, if_neg hnf]
      rw [e1, e2]
      have hlt : (dropL L id).length < 64 := by
        have hL := h.le
        cases hh : has L id with
        | true => have := dropL_length hh; omega
        | false => rw [dropL_none hh]; have : L.length ≠ 64 := fun e => hnf ⟨hh, e⟩; omega
      have hwd := wf.drop id
      have hmono := mono_of hwd.sorted (lateI now t, id)
      have HF := Lib.hid hf
      have HM := Lib.hid hmono
      have HW := Lib.hid hwd
      have HWF := Lib.hid wf
      have HNF := Lib.hid hnf
      have HH := Lib.hid h
      clear hf e1 e2 hwd hmono wf hnf ht
      cases hh : has L id with
      | true =>
        rw [hh] at HF
        clear hh h
        go_enter Try.func27, Try.ntmps27
        go_wp2_with (first
          | (go_at_call 44; refine HF.out.mono ?_; rintro e w1 ⟨rfl, hb⟩)
          | (go_at_call 31; refine (drop_any id (HH.out.below hb) HWF.out.ids).mono ?_; rintro e w2 ⟨rfl, hc2, ht2⟩)
          | (go_at_call 46; refine (later_any t hc2 HWF.out.n0 HWF.out.n1 h0).mono ?_; rintro e w3 ⟨rfl, n, rfl⟩)
          | (go_at_call 45; refine (lay_any _ _ _ (hc2.drewN n) hlt HM.out).mono ?_; rintro e w4 ⟨rfl, i, hi0, hi1, hi2, hc4, ht4⟩))
        go_ret
        refine ⟨rfl, by rw [← split_at hi0 hi1 hi2]; exact hc4, (Mail.Turn.of_below hb).trans (ht2.trans ((⟨rfl, rfl, rfl, Nat.le_refl _, fun _ _ _ => rfl⟩ : Turn (At b) w2 (w2.drewN n)).trans ht4))⟩
      | false =>
        rw [hh] at HF
        have hne : L.length ≠ 64 := fun e => HNF.out ⟨hh, e⟩
        have hL := h.le
        obtain ⟨m, hm⟩ : ∃ m, m = L.length := ⟨_, rfl⟩
        have hmt : ((m : Int) == 64) = false := by simp; omega
        have HMM := Lib.hid hm
        clear hh hne hL hm h
        go_enter Try.func27, Try.ntmps27
        go_wp2_with (first
          | (go_at_call 44; refine HF.out.mono ?_; rintro e w1 ⟨rfl, hb⟩; have hc : w1.cell? ⟨b, 129, none⟩ = some (.int .i64 m) := by (have := (HH.out.below hb).cellMany; rw [← HMM.out] at this; exact this))
          | (go_at_call 31; refine (drop_any id (HH.out.below hb) HWF.out.ids).mono ?_; rintro e w2 ⟨rfl, hc2, ht2⟩)
          | (go_at_call 46; refine (later_any t hc2 HWF.out.n0 HWF.out.n1 h0).mono ?_; rintro e w3 ⟨rfl, n, rfl⟩)
          | (go_at_call 45; refine (lay_any _ _ _ (hc2.drewN n) hlt HM.out).mono ?_; rintro e w4 ⟨rfl, i, hi0, hi1, hi2, hc4, ht4⟩))
        go_ret
        refine ⟨rfl, by rw [← split_at hi0 hi1 hi2]; exact hc4, (Mail.Turn.of_below hb).trans (ht2.trans ((⟨rfl, rfl, rfl, Nat.le_refl _, fun _ _ _ => rfl⟩ : Turn (At b) w2 (w2.drewN n)).trans ht4))⟩
end
end Go.Proofs.Ytndhhpiklaffoaa.Clock
