/-
  A sign, a pair.
-/
import Derived.Test.YtjeknociobbhpaaDoorOrdB
namespace Go.Proofs.YtjeknociobbhpaaDoor.Ord
open Go.RowKit Base
set_option linter.unusedVariables false
set_option linter.unusedSimpArgs false

section
variable {w w' : World} {b : Nat} {a : Option Addr} {cap : Nat} {L : List Int} {i : Nat}
theorem sign_any (h : Rdr w b a cap L i) : Calls Tryd.prog 38 #[.pointer (some ⟨b, 0, none⟩)] w (RdP b a cap L w (signM L i) fun _ x V => V = .tuple #[.int .u8 x.1, .bool x.2]) := by
  unfold signM
  have H := Lib.hid h
  clear h
  rcases Nat.lt_or_ge i L.length with hi | hi
  · rw [nx_lt hi]
    simp only [Rd.andThen]
    have HI := Lib.hid hi
    clear hi
    obtain ⟨x, hx⟩ : ∃ x, x = L[i]?.getD 0 := ⟨_, rfl⟩
    rw [← hx]
    have HX := Lib.hid hx.symm
    clear hx
    by_cases h8 : x = 8
    · subst h8
      rw [if_pos rfl]
      rcases Nat.lt_or_ge (i + 1) L.length with hj | hj
      · rw [nx_lt hj]
        simp only
        have HJ := Lib.hid hj
        clear hj
        obtain ⟨y, hy⟩ : ∃ y, y = L[i + 1]?.getD 0 := ⟨_, rfl⟩
        rw [← hy]
        have HY := Lib.hid hy.symm
        clear hy
        unfold shownM
        by_cases hs : standsB y true = true
        · rw [if_pos hs]
          have HS := Lib.hid hs
          clear hs
          go_enter Tryd.func38, Tryd.ntmps38
          go_wp2_with fail
          refine (next_ok H.out HI.out).mono ?_
          rw [HX.out]
          rintro e W1 ⟨rfl, h1, t1⟩
          have H1 := Lib.hid h1
          have T1 := Lib.hid t1
          clear h1 t1
          go_wp2_with fail
          refine (next_ok H1.out HJ.out).mono ?_
          rw [HY.out]
          rintro e W2 ⟨rfl, h2, t2⟩
          have H2 := Lib.hid h2
          have T2 := Lib.hid t2
          clear h2 t2
          go_wp2_with fail
          refine (shown_ok _ _ _ HS.out).mono ?_
          rintro e w' ⟨rfl, rfl⟩
          go_wp2_with fail
          go_ret2
          exact ⟨T1.out.trans T2.out, ⟨_, rfl, rfl⟩, H2.out⟩
        · rw [if_neg hs]
          have HS : Hid (standsB y true = false) := Lib.hid (by simpa using hs)
          clear hs
          go_enter Tryd.func38, Tryd.ntmps38
          go_wp2_with fail
          refine (next_ok H.out HI.out).mono ?_
          rw [HX.out]
          rintro e W1 ⟨rfl, h1, t1⟩
          have H1 := Lib.hid h1
          have T1 := Lib.hid t1
          clear h1 t1
          go_wp2_with fail
          refine (next_ok H1.out HJ.out).mono ?_
          rw [HY.out]
          rintro e W2 ⟨rfl, h2, t2⟩
          have H2 := Lib.hid h2
          have T2 := Lib.hid t2
          clear h2 t2
          go_wp2_with fail
          refine (shown_bad _ _ _ HS.out).mono ?_
          rintro e w' ⟨rfl, rfl⟩
          unfold thrown
          go_wp2_with fail
          exact ⟨rfl, T1.out.trans T2.out, rfl⟩
      · rw [nx_end hj]
        simp only
        have HJ := Lib.hid hj
        clear hj
        go_enter Tryd.func38, Tryd.ntmps38
        go_wp2_with fail
        refine (next_ok H.out HI.out).mono ?_
        rw [HX.out]
        rintro e W1 ⟨rfl, h1, t1⟩
        have H1 := Lib.hid h1
        have T1 := Lib.hid t1
        clear h1 t1
        go_wp2_with fail
        refine (next_end H1.out (by have := H1.out.le; have := HJ.out; omega)).mono ?_
        rintro e W2 ⟨rfl, t2⟩
        unfold thrown
        have T2 := Lib.hid t2
        clear t2
        go_wp2_with fail
        exact ⟨rfl, T1.out.trans T2.out, rfl⟩
    · rw [if_neg h8]
      have h8b : (x == 8) = false := by simpa using h8
      clear h8
      unfold shownM
      by_cases hs : standsB x false = true
      · rw [if_pos hs]
        have HS := Lib.hid hs
        clear hs
        go_enter Tryd.func38, Tryd.ntmps38
        go_wp2_with fail
        refine (next_ok H.out HI.out).mono ?_
        rw [HX.out]
        rintro e W1 ⟨rfl, h1, t1⟩
        have H1 := Lib.hid h1
        have T1 := Lib.hid t1
        clear h1 t1
        go_wp2_with fail
        refine (shown_ok _ _ _ HS.out).mono ?_
        rintro e w' ⟨rfl, rfl⟩
        go_wp2_with fail
        go_ret2
        exact ⟨T1.out, ⟨_, rfl, rfl⟩, H1.out⟩
      · rw [if_neg hs]
        have HS : Hid (standsB x false = false) := Lib.hid (by simpa using hs)
        clear hs
        go_enter Tryd.func38, Tryd.ntmps38
        go_wp2_with fail
        refine (next_ok H.out HI.out).mono ?_
        rw [HX.out]
        rintro e W1 ⟨rfl, h1, t1⟩
        have H1 := Lib.hid h1
        have T1 := Lib.hid t1
        clear h1 t1
        go_wp2_with fail
        refine (shown_bad _ _ _ HS.out).mono ?_
        rintro e w' ⟨rfl, rfl⟩
        unfold thrown
        go_wp2_with fail
        exact ⟨rfl, T1.out, rfl⟩
  · rw [nx_end hi]
    simp only [Rd.andThen]
    have HI := Lib.hid hi
    clear hi
    go_enter Tryd.func38, Tryd.ntmps38
    go_wp2_with fail
    refine (next_end H.out (by have := H.out.le; have := HI.out; omega)).mono ?_
    rintro e W2 ⟨rfl, t2⟩
    unfold thrown
    have T2 := Lib.hid t2
    clear t2
    go_wp2_with fail
    exact ⟨rfl, T2.out, rfl⟩
end
end Go.Proofs.YtjeknociobbhpaaDoor.Ord
