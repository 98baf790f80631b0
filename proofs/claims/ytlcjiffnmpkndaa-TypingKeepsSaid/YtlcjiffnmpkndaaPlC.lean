/-
  Contract of Same of package plane.
-/
import Derived.Test.YtlcjiffnmpkndaaPlB
namespace Go.Proofs.Ytlcjiffnmpkndaa.Pl
open Go.RowKit Go.Shelf Base
set_option linter.unusedVariables false
set_option linter.unusedSimpArgs false

/-! ### Same -/
theorem fields_cl : (Try.prog.fieldsOf 58).toList.map (fun f => (f.name, f.type, f.offset)) = [("Byte", 5, 0), ("GE", 4, 1), ("Start", 4, 2), ("Light", 5, 3), ("Color", 5, 4)] := by kernel_rfl
theorem fields_sz : (Try.prog.fieldsOf 23).toList.map (fun f => (f.name, f.type, f.offset)) = [("Rows", 3, 0), ("Cols", 3, 1)] := by kernel_rfl
theorem run_neq_cl (w : World) (x y : Cl) : (binOp .neq 58 x.val y.val).run Try.prog w = .ok (.bool (!decide (x = y))) w := by
  obtain ⟨b, ge, st, li, co⟩ := x
  obtain ⟨b', ge', st', li', co'⟩ := y
  have e : (binOp .neq 58 (Cl.val ⟨b, ge, st, li, co⟩) (Cl.val ⟨b', ge', st', li', co'⟩)).run Try.prog w = .ok (.bool (!((b == b') && ((ge == ge') && ((st == st') && ((li == li') && (co == co'))))))) w := by
    cases h1 : (b == b') with
    | false => simp [go_sem, h1]
    | true =>
      cases h2 : (ge == ge') with
      | false => simp [go_sem, h1, h2]
      | true =>
        cases h3 : (st == st') with
        | false => simp [go_sem, h1, h2, h3]
        | true =>
          cases h4 : (li == li') with
          | false => simp [go_sem, h1, h2, h3, h4]
          | true =>
            cases h5 : (co == co') with
            | false => simp [go_sem, h1, h2, h3, h4, h5]
            | true => simp [go_sem, h1, h2, h3, h4, h5]
  have h : (decide ((⟨b, ge, st, li, co⟩ : Cl) = ⟨b', ge', st', li', co'⟩)) = ((b == b') && ((ge == ge') && ((st == st') && ((li == li') && (co == co'))))) := by
    rw [Bool.eq_iff_iff]
    simp
  exact e.trans (by rw [h])
theorem run_neq_sz (w : World) (r c r' c' : Int) : (binOp .neq 23 (.agg #[.int .i64 r, .int .i64 c]) (.agg #[.int .i64 r', .int .i64 c'])).run Try.prog w = .ok (.bool (!decide (r = r' ∧ c = c'))) w := by
  have e : (binOp .neq 23 (.agg #[.int .i64 r, .int .i64 c]) (.agg #[.int .i64 r', .int .i64 c'])).run Try.prog w = .ok (.bool (!((r == r') && (c == c')))) w := by
    cases h1 : (r == r') with
    | false => simp [go_sem, h1]
    | true =>
      cases h2 : (c == c') with
      | false => simp [go_sem, h1, h2]
      | true => simp [go_sem, h1, h2]
  have h : decide (r = r' ∧ c = c') = ((r == r') && (c == c')) := by
    rw [Bool.eq_iff_iff]
    simp
  exact e.trans (by rw [h])
theorem at_is {w : World} {b g : Nat} {r c cur : Int} {L : List Cl} {i : Int} {x : Cl} (h : PlAt w b g r c cur L) (hx : x = atL L i) : Calls Try.prog 40 #[.pointer (some ⟨b, 0, none⟩), .int .i64 i] w fun e W' => e = .returned x.val ∧ Below w.heap.size w W' := by
  rw [hx]; exact at_any h i
def sameP (r c cur r' c' cur' : Int) (L M : List Cl) : Bool := decide (r = r' ∧ c = c' ∧ cur = cur' ∧ L = M)
theorem takes_same (A B : List Cl) (k : Nat) (hA : k < A.length) (hB : k < B.length) (h : A.take k = B.take k) (he : atL A k = atL B k) : A.take (k + 1) = B.take (k + 1) := by
  rw [List.take_succ_eq_append_getElem hA, List.take_succ_eq_append_getElem hB, h]
  rw [atL_yes (x := A[k]) (by simp [hA]), atL_yes (x := B[k]) (by simp [hB])] at he
  rw [he]
set_option maxRecDepth 100000 in
set_option maxHeartbeats 2000000 in
theorem same_any {w : World} {b g b' g' : Nat} {r c cur r' c' cur' : Int} {L M : List Cl} (h : PlAt w b g r c cur L) (h' : PlAt w b' g' r' c' cur' M) :
    Calls Try.prog 35 #[.pointer (some ⟨b, 0, none⟩), .pointer (some ⟨b', 0, none⟩)] w fun e W => e = .returned (.bool (sameP r c cur r' c' cur' L M)) ∧ Below w.heap.size w W := by
  obtain ⟨B, hB⟩ : ∃ B, B = sameP r c cur r' c' cur' L M := ⟨_, rfl⟩
  rw [← hB]
  have HB := Lib.hid hB
  have hm := h.most
  have hsz := h.size
  have hsz' := h'.size
  have HH := Lib.hid h
  have HH' := Lib.hid h'
  clear hB h h'
  by_cases hs : r = r' ∧ c = c'
  · obtain ⟨rfl, rfl⟩ := hs
    have hne := fun w => run_neq_sz w r c r c
    rw [decide_eq_true ⟨rfl, rfl⟩] at hne
    have hl : L.length = M.length := by omega
    by_cases hc : cur = cur'
    · subst hc
      have hnc := fun w x y => run_neq_cl w x y
      obtain ⟨n, hn⟩ : ∃ n, n = L.length := ⟨_, rfl⟩
      have HN := Lib.hid hn
      have HN' : Hid (n = M.length) := hn.trans hl
      rw [← hn] at hm
      clear hn hl hsz hsz'
      go_enter Try.func35, Try.ntmps35
      go_wp2_with (first | (go_at_call 68; first | (with_reducible refine (size_any HH.out).mono ?_; rintro e w1 ⟨rfl, b1⟩; have HH1 := Lib.hid (HH'.out.below b1); have B1 := Lib.hid b1; clear b1) | (with_reducible refine (size_any HH1.out).mono ?_; rintro e w2 ⟨rfl, b2⟩; have B2 := Lib.hid (B1.out.trans (b2.mono B1.out.size)); have H2 := Lib.hid (HH.out.below B2.out); have H2' := Lib.hid (HH'.out.below B2.out); clear b2 HH1)) | (go_at_call 33; first | (with_reducible refine (cursor_any H2.out).mono ?_; rintro e w3 ⟨rfl, rfl⟩) | (with_reducible refine (cursor_any H2'.out).mono ?_; rintro e w3 ⟨rfl, rfl⟩)))
      have hll := len_any H2.out
      rw [← HN.out] at hll
      refine hll.mono ?_
      rintro e w3 ⟨rfl, rfl⟩
      clear hll
      go_wp2
      go_loopw [20] (fun p wr => ∃ k : Nat, k ≤ n ∧ p = .int .i64 k ∧ Hid (L.take k = M.take k) ∧ Below w.heap.size w wr) (fun p _ => n - (intOf p).toNat)
      case atStart => exact ⟨0, Nat.zero_le _, rfl, rfl, B2.out⟩
      case round =>
        obtain ⟨k, hk, rfl, HT, hb⟩ := hrel
        by_cases hkn : k < n
        · have hki : (k : Int) < (n : Int) := by omega
          have H3 := Lib.hid (HH.out.below hb)
          have H3' := Lib.hid (HH'.out.below hb)
          have B3 := Lib.hid hb
          clear hb
          by_cases he : atL L k = atL M k
          · have hne2 := fun w => run_neq_cl w (atL L k) (atL M k)
            rw [decide_eq_true he] at hne2
            have HE := Lib.hid he
            clear he hne hnc
            obtain ⟨x, hx⟩ : ∃ x, x = atL L k := ⟨_, rfl⟩
            obtain ⟨y, hy⟩ : ∃ y, y = atL M k := ⟨_, rfl⟩
            rw [← hx, ← hy] at hne2
            have HX := Lib.hid hx
            have HY := Lib.hid hy
            clear hx hy
            go_wp2_with (go_at_call 40; first | (with_reducible refine (at_is H3.out HX.out).mono ?_; rintro e w1 ⟨rfl, b1⟩; have HH1 := Lib.hid (H3'.out.below b1); have B1 := Lib.hid b1; clear b1) | (with_reducible refine (at_is HH1.out HY.out).mono ?_; rintro e w2 ⟨rfl, b2⟩; have B4 := Lib.hid (B3.out.trans ((B1.out.trans (b2.mono B1.out.size)).mono B3.out.size)); clear b2 HH1))
            go_roundw
            case rel => exact ⟨k + 1, by omega, by go_num, takes_same L M k (by rw [← HN.out]; exact hkn) (by rw [← HN'.out]; exact hkn) HT.out HE.out, B4.out⟩
            case measure => simp [intOf]; omega
          · have hne2 := fun w => run_neq_cl w (atL L k) (atL M k)
            rw [decide_eq_false he] at hne2
            have HE := Lib.hid he
            clear he hne hnc
            obtain ⟨x, hx⟩ : ∃ x, x = atL L k := ⟨_, rfl⟩
            obtain ⟨y, hy⟩ : ∃ y, y = atL M k := ⟨_, rfl⟩
            rw [← hx, ← hy] at hne2
            have HX := Lib.hid hx
            have HY := Lib.hid hy
            clear hx hy
            go_wp2_with (go_at_call 40; first | (with_reducible refine (at_is H3.out HX.out).mono ?_; rintro e w1 ⟨rfl, b1⟩; have HH1 := Lib.hid (H3'.out.below b1); have B1 := Lib.hid b1; clear b1) | (with_reducible refine (at_is HH1.out HY.out).mono ?_; rintro e w2 ⟨rfl, b2⟩; have B4 := Lib.hid (B3.out.trans ((B1.out.trans (b2.mono B1.out.size)).mono B3.out.size)); clear b2 HH1))
            go_ret
            exact ⟨ret_bool (by rw [HB.out]; unfold sameP; rw [eq_comm, decide_eq_false_iff_not]; rintro ⟨_, _, _, rfl⟩; exact HE.out rfl), B4.out⟩
        · obtain rfl : k = n := by omega
          go_wp2
          go_ret
          refine ⟨ret_bool ?_, hb⟩
          have ht := HT.out
          rw [List.take_of_length_le (by rw [← HN.out]; exact Nat.le_refl _), List.take_of_length_le (by rw [← HN'.out]; exact Nat.le_refl _)] at ht
          rw [HB.out]; unfold sameP; rw [eq_comm, decide_eq_true_iff]; exact ⟨rfl, rfl, rfl, ht⟩
    · have hnn : ((cur : Int) != cur') = true := by simpa using hc
      have HC := Lib.hid hc
      clear hc
      go_enter Try.func35, Try.ntmps35
      go_wp2_with (first | (go_at_call 68; first | (with_reducible refine (size_any HH.out).mono ?_; rintro e w1 ⟨rfl, b1⟩; have HH1 := Lib.hid (HH'.out.below b1); have B1 := Lib.hid b1; clear b1) | (with_reducible refine (size_any HH1.out).mono ?_; rintro e w2 ⟨rfl, b2⟩; have B2 := Lib.hid (B1.out.trans (b2.mono B1.out.size)); have H2 := Lib.hid (HH.out.below B2.out); have H2' := Lib.hid (HH'.out.below B2.out); clear b2 HH1)) | (go_at_call 33; first | (with_reducible refine (cursor_any H2.out).mono ?_; rintro e w3 ⟨rfl, rfl⟩) | (with_reducible refine (cursor_any H2'.out).mono ?_; rintro e w3 ⟨rfl, rfl⟩)))
      go_ret
      exact ⟨ret_bool (by rw [HB.out]; unfold sameP; rw [eq_comm, decide_eq_false_iff_not]; rintro ⟨_, _, h, _⟩; exact HC.out h), B2.out⟩
  · have hne := fun w => run_neq_sz w r c r' c'
    rw [decide_eq_false hs] at hne
    have HC := Lib.hid hs
    clear hs hsz hsz'
    go_enter Try.func35, Try.ntmps35
    go_wp2_with (first | (go_at_call 68; first | (with_reducible refine (size_any HH.out).mono ?_; rintro e w1 ⟨rfl, b1⟩; have HH1 := Lib.hid (HH'.out.below b1); have B1 := Lib.hid b1; clear b1) | (with_reducible refine (size_any HH1.out).mono ?_; rintro e w2 ⟨rfl, b2⟩; have B2 := Lib.hid (B1.out.trans (b2.mono B1.out.size)); have H2 := Lib.hid (HH.out.below B2.out); have H2' := Lib.hid (HH'.out.below B2.out); clear b2 HH1)) | (go_at_call 33; first | (with_reducible refine (cursor_any H2.out).mono ?_; rintro e w3 ⟨rfl, rfl⟩) | (with_reducible refine (cursor_any H2'.out).mono ?_; rintro e w3 ⟨rfl, rfl⟩)))
    go_ret
    exact ⟨ret_bool (by rw [HB.out]; unfold sameP; rw [eq_comm, decide_eq_false_iff_not]; rintro ⟨h1, h2, _, _⟩; exact HC.out ⟨h1, h2⟩), B2.out⟩
/-! ### Fill -/
def fillL (L : List Cl) (ps : List Int) (x : Cl) : List Cl := ps.foldl (fun M p => setL M p x) L
theorem fillL_length (ps : List Int) (x : Cl) : ∀ L, (fillL L ps x).length = L.length := by
  induction ps with
  | nil => intro L; rfl
  | cons p ps ih => intro L; rw [fillL, List.foldl_cons]; exact (ih _).trans (setL_length _ _ _)
theorem fillL_snoc (L : List Cl) (ps : List Int) (p : Int) (x : Cl) : fillL L (ps ++ [p]) x = setL (fillL L ps x) p x := by simp [fillL]
end Go.Proofs.Ytlcjiffnmpkndaa.Pl
