/-
  The laws' few orders; planes one beside another.
-/
import Derived.Test.YtglkjcdbffkbcaaPaJ
import Derived.Test.YtglkjcdbffkbcaaPmP
namespace Go.Proofs.Ytglkjcdbffkbcaa.Pl
open Go.RowKit Go.Shelf Base
set_option linter.unusedVariables false
set_option linter.unusedSimpArgs false

theorem OrdsAt.inT {w W : World} {v : Value} {os : List Or} (h : OrdsAt w v os) (hb : Below w.heap.size w W) {T : Nat → Prop} (hT : ∀ k, k < w.heap.size → T k) : OrdsIn T W v os :=
  (h.in.turn (Turn.of_below (S := fun _ => False) hb) (fun _ _ _ h => h)).mono hT
theorem paintB_in {L : List Cl} {cur f : Int} (os : List Or) (h : hasL L f = true) : paintB L cur os f = runB ⟨L, cur, f, c0, false⟩ os 0 := by unfold paintB; rw [if_pos h]
theorem sameP_self (r c cur : Int) (L : List Cl) : sameP r c cur r c cur L L = true := by unfold sameP; simp
theorem fewL_take {os : List Or} {k : Nat} {o : Or} (ho : os[k]? = some o) (h : ∀ p ∈ os.take k, p.pairs.length ≤ 30 ∧ p.data.length ≤ 80) (hs : o.pairs.length ≤ 30 ∧ o.data.length ≤ 80) : ∀ p ∈ os.take (k + 1), p.pairs.length ≤ 30 ∧ p.data.length ≤ 80 := by
  obtain ⟨h1, h2⟩ := List.getElem?_eq_some_iff.1 ho
  intro p hp
  rw [List.take_succ_eq_append_getElem h1, h2] at hp
  rcases List.mem_append.1 hp with h' | h'
  · exact h p h'
  · rw [List.mem_singleton.1 h']; exact hs
theorem fewL_no {os : List Or} {k : Nat} {o : Or} (ho : os[k]? = some o) (h : ¬ (o.pairs.length ≤ 30 ∧ o.data.length ≤ 80)) : fewL os = false := by
  unfold fewL
  rw [Bool.and_eq_false_iff]
  left
  rw [List.all_eq_false]
  exact ⟨o, List.mem_of_getElem? ho, by simpa using h⟩
set_option maxRecDepth 100000 in
set_option maxHeartbeats 4000000 in
theorem few_any {w : World} {v : Value} {os : List Or} (hv : OrdsAt w v os) (hl : os.length ≤ maxLen) (hok : ∀ o ∈ os, OrOk o) : Calls Try.prog 33 #[v] w fun e W => e = .returned (.bool (fewL os)) ∧ Below w.heap.size w W := by
  obtain ⟨a, cap, hva, hlc, _, _⟩ := id hv
  subst hva
  obtain ⟨n, hn⟩ : ∃ n, n = os.length := ⟨_, rfl⟩
  rw [← hn] at hv hl hlc ⊢
  obtain ⟨R, hR⟩ : ∃ R, R = fewL os := ⟨_, rfl⟩
  rw [← hR]
  have HV := Lib.hid hv
  have HN := Lib.hid hn
  have HR := Lib.hid hR
  have HOK := Lib.hid hok
  unfold maxLen at hl
  clear hv hn hR hok
  go_enter Try.func33, Try.ntmps33
  go_wp2_with fail
  go_loopw [7] (fun p wr => ∃ k : Nat, p = .int .i64 k ∧ k ≤ n ∧ Below w.heap.size w wr ∧ ∀ p ∈ os.take k, p.pairs.length ≤ 30 ∧ p.data.length ≤ 80) (fun p _ => n - (intOf p).toNat)
  case atStart => exact ⟨0, rfl, Nat.zero_le _, Below.refl _ _, fun p hp => by simp at hp⟩
  case round =>
    obtain ⟨k, rfl, hk, hb, hs⟩ := hrel
    have HB := Lib.hid hb
    have HS := Lib.hid hs
    clear hs
    by_cases hk1 : k < n
    · have hki : (k : Int) < (n : Int) := by omega
      obtain ⟨a1, cap1, e1, _, _, hin⟩ := HV.out.below hb
      injection e1 with e2 e3 e4
      subst e2
      obtain ⟨tb, toff, e5, hin2⟩ := hin (by intro e; rw [e, List.length_nil] at e3; omega)
      subst e5
      obtain ⟨o, ho⟩ : ∃ o, os[k]? = some o := ⟨_, List.getElem?_eq_getElem (by rw [← HN.out]; exact hk1)⟩
      obtain ⟨vp, vd, ⟨y0, y1, y2, y3, y4, y5⟩, hpr, hdr⟩ := hin2 k o ho
      obtain ⟨ap, cp, hvp, _⟩ := id hpr
      have hp63 := (HOK.out o (List.mem_of_getElem? ho)).ps
      have hd63 := (HOK.out o (List.mem_of_getElem? ho)).ds
      have hst := fewL_take ho HS.out
      have hno := fewL_no ho
      obtain ⟨np, hnp⟩ : ∃ np, np = o.pairs.length := ⟨_, rfl⟩
      rw [← hnp] at hvp hst hno hp63
      subst hvp
      obtain ⟨ad, cd, hvd, _⟩ := id hdr
      obtain ⟨nd, hnd⟩ : ∃ nd, nd = o.data.length := ⟨_, rfl⟩
      rw [← hnd] at hvd hst hno hd63
      subst hvd
      rw [← HR.out] at hno
      have HST := Lib.hid hst
      have HNO := Lib.hid hno
      have HAL := Lib.hid (HB.out.alloc HB.out.size (.cells #[.int .u8 o.kind, .int .i64 o.addr, .int .u8 o.byte, .bool o.ge, .slice ap np cp, .slice ad nd cd] 73))
      unfold maxLen at hp63 hd63
      clear hb hin hin2 ho hpr hdr hst hno hnp hnd e3 e4
      by_cases h30 : np ≤ 30
      · have h30i : ¬ (30 : Int) < (np : Int) := by omega
        by_cases h80 : nd ≤ 80
        · have h80i : ¬ (80 : Int) < (nd : Int) := by omega
          go_wp2
          exact ⟨⟨k + 1, by go_num, by omega, HAL.out, HST.out ⟨h30, h80⟩⟩, by simp [intOf]; omega⟩
        · have h80i : (80 : Int) < (nd : Int) := by omega
          have hr := HNO.out (fun h => h80 h.2)
          subst hr
          go_wp2
          go_ret
          exact ⟨rfl, HAL.out⟩
      · have h30i : (30 : Int) < (np : Int) := by omega
        have hr := HNO.out (fun h => h30 h.1)
        subst hr
        go_wp2
        go_ret
        exact ⟨rfl, HAL.out⟩
    · obtain rfl : n = k := by omega
      have hki : ¬ (n : Int) < (n : Int) := by omega
      have hall : R = decide (n ≤ 20) := by
        rw [HR.out, HN.out]
        unfold fewL
        have hs := HS.out
        rw [HN.out, List.take_length] at hs
        rw [List.all_eq_true.2 (fun o ho => by simpa using hs o ho)]
        rfl
      clear hb
      by_cases h20 : n ≤ 20
      · have h20i : (n : Int) ≤ 20 := by omega
        have hr : R = true := by rw [hall]; simpa using h20
        subst hr
        clear hall
        go_wp2
        go_ret
        exact ⟨rfl, HB.out⟩
      · have h20i : ¬ (n : Int) ≤ 20 := by omega
        have hr : R = false := by rw [hall]; simpa using h20
        subst hr
        clear hall
        go_wp2
        go_ret
        exact ⟨ret_bool (by simp), HB.out⟩
theorem fewL_len {os : List Or} (h : fewL os = true) : os.length ≤ 20 ∧ ∀ o ∈ os, o.pairs.length ≤ 30 ∧ o.data.length ≤ 80 := by
  unfold fewL at h
  rw [Bool.and_eq_true] at h
  exact ⟨of_decide_eq_true h.2, fun o ho => by simpa using List.all_eq_true.1 h.1 o ho⟩
/-- A plane of the call's own. -/
structure P1 (w : World) (b g : Nat) (r c cur : Int) (L : List Cl) (W : World) : Prop where
  pl : PlAt W b g r c cur L
  lb : w.heap.size ≤ b
  lg : w.heap.size ≤ g
theorem P1.below {w W W' : World} {b g : Nat} {r c cur : Int} {L : List Cl} (h : P1 w b g r c cur L W) (t : Below W.heap.size W W') : P1 w b g r c cur L W' := ⟨h.pl.below t, h.lb, h.lg⟩
theorem P1.beside {w W W' : World} {b g b' g' : Nat} {r c cur : Int} {L : List Cl} (h : P1 w b g r c cur L W) (t : Turn (Or2 (At b') (At g')) W W') (h1 : b ≠ b') (h2 : b ≠ g') (h3 : g ≠ b') (h4 : g ≠ g') : P1 w b g r c cur L W' :=
  ⟨h.pl.turn t (by rintro (e | e); exact h1 e; exact h2 e) (by rintro (e | e); exact h3 e; exact h4 e), h.lb, h.lg⟩
theorem old_turn {w W W' : World} {b g : Nat} (h : Below w.heap.size w W) (t : Turn (Or2 (At b) (At g)) W W') (lb : w.heap.size ≤ b) (lg : w.heap.size ≤ g) : Below w.heap.size w W' :=
  h.trans (t.below h.size (fun k hk => by rcases hk with hk | hk <;> (unfold At at hk; omega)))
end Go.Proofs.Ytglkjcdbffkbcaa.Pl
