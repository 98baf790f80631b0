/-
  The iterator over all fields of a plane whose cells may be turned between its rounds.
-/
import Derived.Test.YtlcjiffnmpkndaaFlE
namespace Go.Proofs.Ytlcjiffnmpkndaa.Pl
open Go.RowKit Go.Shelf Base
attribute [local go_sem] Oper.semAt_some
set_option linter.unusedVariables false
set_option linter.unusedSimpArgs false

/-- The fields that begin ahead of place i, where Lf tells the cells behind those that were given. -/
def allK (L : List Cl) (Lf : List Fd → List Cl) : Nat → List Fd
  | 0 => []
  | i + 1 => if (atL L i).st then allK L Lf i ++ [begF (Lf (allK L Lf i)) i] else allK L Lf i
def allL (L : List Cl) : List Fd := allK L (fun _ => L) L.length
theorem allK_succ_yes {L : List Cl} {Lf : List Fd → List Cl} {i : Nat} (h : (atL L i).st = true) : allK L Lf (i + 1) = allK L Lf i ++ [begF (Lf (allK L Lf i)) i] := by simp [allK, h]
theorem allK_succ_no {L : List Cl} {Lf : List Fd → List Cl} {i : Nat} (h : (atL L i).st = false) : allK L Lf (i + 1) = allK L Lf i := by simp [allK, h]
theorem allK_prefix (L : List Cl) (Lf : List Fd → List Cl) (i k : Nat) : allK L Lf i <+: allK L Lf (i + k) := by
  induction k with
  | zero => exact List.prefix_refl _
  | succ k ih =>
    refine ih.trans ?_
    rw [show i + (k + 1) = i + k + 1 from rfl]
    cases h : (atL L (i + k : Nat)).st with
    | true => rw [allK_succ_yes h]; exact List.prefix_append _ _
    | false => rw [allK_succ_no h]; exact List.prefix_refl _
theorem allK_len {L : List Cl} {Lf : List Fd → List Cl} {i n : Nat} (hi : i < n) (h : (atL L i).st = true) : (allK L Lf i).length < (allK L Lf n).length := by
  have h1 := (allK_prefix L Lf (i + 1) (n - (i + 1))).length_le
  rw [show i + 1 + (n - (i + 1)) = n by omega, allK_succ_yes h] at h1
  simp at h1; omega
def AllIt (W : World) (bp b : Nat) : Prop := W.heap[bp]? = some (.cells #[.pointer (some ⟨b, 0, none⟩)] 27 (0, 0))
theorem all_any (w : World) (b : Nat) : Calls Try.prog 112 #[.pointer (some ⟨b, 0, none⟩)] w fun e W =>
    e = .returned (.func (.func 141) #[] #[.pointer (some ⟨w.heap.size, 0, none⟩)]) ∧ AllIt W w.heap.size b ∧ Below w.heap.size w W ∧ W.heap.size = w.heap.size + 1 := by
  go_enter Try.func112, Try.ntmps112
  go_wp2
  go_ret
  have e0 := heap_alloc_new w (.cells #[.pointer (some ⟨b, 0, none⟩)] 27)
  exact ⟨rfl, e0, below_alloc w _, by simp⟩
set_option maxRecDepth 100000 in
set_option maxHeartbeats 1000000 in
theorem all_seq (m : Nat) (hm : 1 ≤ m) (bp b g : Nat) (r c cur : Int) (L : List Cl) (Lf : List Fd → List Cl) (hS : ∀ pre i, (atL (Lf pre) i).st = (atL L i).st) (hN : ∀ pre, (Lf pre).length = L.length) (hB : ∀ pre, BoL (Lf pre)) (w : World) (hb : bp < w.heap.size) (hI : AllIt w bp b) :
    SeqP Fence.wide m Try.prog 141 #[.pointer (some ⟨bp, 0, none⟩)] (fun x : Fd => #[x.val]) (fun _ => Keep2 bp bp) (fun pre W => PlAt W b g r c cur (Lf pre)) (fun ys => ys = allK L Lf L.length) (fun pre => pre <+: allK L Lf L.length) (allK L Lf L.length).length 0 w := by
  intro l J Jx W hW hJ hJx hJp hY h0
  have hIW : AllIt W bp b := (hW.block _ hb).trans hI
  have hP := hJp _ _ h0
  have hm0 := hP.most
  rw [hN] at hm0
  have c1 : W.cell? ⟨bp, 0, none⟩ = some (.pointer (some ⟨b, 0, none⟩)) := by simp [World.cell?, show W.heap[bp]? = _ from hIW]
  have HI := Lib.hid hIW
  have HJ := Lib.hid hJ
  have HJp := Lib.hid hJp
  have HY := Lib.hid hY
  have HS := Lib.hid hS
  have HN := Lib.hid hN
  have HB := Lib.hid hB
  have hlen := len_any hP
  rw [hN] at hlen
  have HLEN := Lib.hid hlen
  have hbw : bp < W.heap.size := Nat.lt_of_lt_of_le hb hW.size
  obtain ⟨n, hn⟩ : ∃ n, n = L.length := ⟨_, rfl⟩
  rw [← hn] at hm0 HLEN HY ⊢
  have HNN := Lib.hid hn
  clear hIW hI hP hY hW hS hN hB hJp hlen hn
  refine callsIn_of_wp Try.func141 rfl trivial ?_ rfl
  simp only [Try.ntmps141, List.size_toArray, List.length_cons, List.length_nil, Nat.reduceAdd, Nat.reduceSub, Array.replicate_succ, Array.replicate_zero, List.push_toArray, List.append_toArray, List.nil_append, List.cons_append]
  gi_wp2_with (refine ⟨trivial, ?_⟩; gi_at_call 39; refine (callsIn_wide.2 HLEN.out).mono ?_; rintro e w' ⟨rfl, rfl⟩)
  gi_loopw [6] (fun p wr => ∃ (i : Nat), p = .int .i64 i ∧ i ≤ n ∧ J (allK L Lf i) wr ∧ Keep2 bp bp W wr) (fun p _ => n - (intOf p).toNat)
  case atStart => exact ⟨0, rfl, by omega, h0, Keep2.refl _ _ _⟩
  case round =>
    obtain ⟨i, rfl, hi, hJi, hKi⟩ := hrel
    have HJi := Lib.hid hJi
    have HKi := Lib.hid hKi
    have d1 : wr.cell? ⟨bp, 0, none⟩ = some (.pointer (some ⟨b, 0, none⟩)) := by
      have := hKi.2.1.trans (show W.heap[bp]? = _ from HI.out)
      simp [World.cell?, this]
    clear hJi hKi c1
    by_cases hin : i < n
    · have hin' : (i : Int) < (n : Int) := by omega
      have hi0 : (0 : Int) ≤ (i : Int) ∧ (i : Int) < 4096 := by omega
      have hP := Lib.hid (HJp.out _ _ HJi.out)
      obtain ⟨⟨yb, yg, ys, yl, yc⟩, hy⟩ : ∃ y, y = atL (Lf (allK L Lf i)) i := ⟨_, rfl⟩
      have HYY := Lib.hid hy
      have hst : (atL L i).st = ys := by rw [← HS.out (allK L Lf i), ← hy]
      have HST := Lib.hid hst
      have hcs := cell_start yb yg ys yl yc
      clear hy hst
      cases ys with
      | false =>
        gi_wp2_with (refine ⟨trivial, ?_⟩; gi_at_call 40; (with_reducible refine (callsIn_wide.2 (at_any hP.out i)).mono ?_); rintro e w1 ⟨he, hb1⟩; rw [← HYY.out] at he; simp only [Cl.val] at he; subst he; have B1 := Lib.hid hb1; clear hb1)
        refine ⟨trivial, ?_⟩
        gi_wp2
        refine ⟨fun _ h => (by cases h), ?_⟩
        gi_wp2
        go_roundw
        case rel =>
          refine ⟨i + 1, rfl, by omega, ?_, HKi.out.trans (Keep2.turn (S := fun _ => False) (Turn.of_below B1.out) (by have := HKi.out.1; omega) (by have := HKi.out.1; omega) (by simp) (by simp))⟩
          rw [allK_succ_no HST.out]
          exact HJ.out _ _ _ none HJi.out (grown_of_below B1.out) (fun _ e => by cases e)
        case measure => simp only [intOf]; omega
      | true =>
        obtain ⟨⟨fs, fk, fa⟩, hf⟩ : ∃ f, f = begF (Lf (allK L Lf i)) i := ⟨_, rfl⟩
        have HF := Lib.hid hf
        have hlt : (allK L Lf i).length < (allK L Lf n).length := allK_len hin HST.out
        have HLT := Lib.hid hlt
        have hpx : allK L Lf i ++ [⟨fs, fk, fa⟩] <+: allK L Lf n := by
          rw [hf, ← allK_succ_yes HST.out]
          have := allK_prefix L Lf (i + 1) (n - (i + 1))
          rwa [show i + 1 + (n - (i + 1)) = n by omega] at this
        have HPX := Lib.hid hpx
        clear hpx
        clear hf hlt
        gi_wp2_with (refine ⟨trivial, ?_⟩; first
          | (gi_at_call 40; (with_reducible refine (callsIn_wide.2 (at_any hP.out i)).mono ?_); rintro e w1 ⟨he, hb1⟩; rw [← HYY.out] at he; simp only [Cl.val] at he; subst he; have B1 := Lib.hid hb1; have d2 := cell_later hb1 d1; clear hb1)
          | (gi_at_call 94; (with_reducible refine (callsIn_wide.2 (begun_any (hP.out.below B1.out) i hi0 (HB.out _))).mono ?_); rintro e w2 ⟨he, hb2⟩; rw [← HF.out] at he; simp only [Fd.val] at he; subst he; have B2 := Lib.hid (B1.out.trans (hb2.mono B1.out.size)); clear hb2
             obtain ⟨fn, tmps, assign, body, hyy, hR⟩ := HY.out (allK L Lf i) ⟨fs, fk, fa⟩ w2 (HPX.out) (HJ.out _ _ _ none HJi.out (grown_of_below B2.out) (fun _ e => by cases e)) HLT.out (by have := HKi.out.1; have := B2.out.size; omega)
             have HR := Lib.hid hR
             clear hR))
        refine HR.out.mono ?_
        rintro e W3 (⟨rfl, hJ3, hk3⟩ | ⟨rfl, hJx3, hk3⟩)
        · have HJ3 := Lib.hid hJ3
          have HK3 := Lib.hid ((HKi.out.trans (Keep2.turn (S := fun _ => False) (Turn.of_below B2.out) (by have := HKi.out.1; omega) (by have := HKi.out.1; omega) (by simp) (by simp))).trans hk3)
          clear hJ3 hk3
          gi_wp2
          go_roundw
          case rel =>
            refine ⟨i + 1, rfl, by omega, ?_, HK3.out⟩
            rw [allK_succ_yes HST.out, ← HF.out]; exact HJ3.out
          case measure => simp only [intOf]; omega
        · have HJ3 := Lib.hid hJx3
          clear hJx3 hk3
          gi_wp2
          refine bodyPost_ret (results_none rfl _ _ _) rfl ?_
          refine ⟨⟨_, rfl⟩, .inr ⟨_, ?_, HJ3.out⟩⟩
          rw [HF.out, ← allK_succ_yes HST.out]
          have := allK_prefix L Lf (i + 1) (n - (i + 1))
          rwa [show i + 1 + (n - (i + 1)) = n by omega] at this
    · have hj : i = n := by omega
      have HJn := Lib.hid (show J (allK L Lf n) wr by exact hj ▸ HJi.out)
      clear hj
      gi_wp2
      go_end0
      exact ⟨⟨_, rfl⟩, .inl ⟨_, rfl, HJn.out⟩⟩
end Go.Proofs.Ytlcjiffnmpkndaa.Pl
