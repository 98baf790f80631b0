/-
  Facts that the walks of layer 1 share; and the contract of the reference's Copy.
-/
import Derived.Test.YtpmcpllcfmgpgaaCodeI
namespace Go.Proofs.Ytpmcpllcfmgpgaa.Code
open Go.RowKit Go.Shelf Go.Maps
set_option linter.unusedVariables false

theorem i64_bd {n : Int} (h : (Lit.int .i64 n).wf = true) : -9223372036854775808 ≤ n ∧ n ≤ 9223372036854775807 := by
  simp [Lit.wf, IntKind.min, IntKind.max, IntKind.bits, IntKind.signed] at h; omega
theorem u8_bd {n : Int} (h : (Lit.int .u8 n).wf = true) : 0 ≤ n ∧ n ≤ 255 := by
  simp [Lit.wf, IntKind.min, IntKind.max, IntKind.bits, IntKind.signed] at h; omega
theorem i32_bd {n : Int} (h : (Lit.int .i32 n).wf = true) : -2147483648 ≤ n ∧ n ≤ 2147483647 := by
  simp [Lit.wf, IntKind.min, IntKind.max, IntKind.bits, IntKind.signed] at h; omega

theorem sgn_at (page b : Int) (b0 : 0 ≤ b) (b1 : b ≤ 255) : ∃ h : b.toNat < (tabl page).length, sgn page b = (tabl page)[b.toNat] := by
  have h : b.toNat < (tabl page).length := by rw [tabl_length]; omega
  exact ⟨h, by unfold sgn; simp [h]⟩
theorem byt_sgn (page b : Int) (b0 : 0 ≤ b) (b1 : b ≤ 255) : byt page (sgn page b) = b ∧ hasb page (sgn page b) = true := by
  obtain ⟨h, e⟩ := sgn_at page b b0 b1
  have hi : (tabl page).idxOf (sgn page b) = b.toNat := by rw [e]; exact List.Nodup.idxOf_getElem (tabl_nodup page) _ h
  unfold byt hasb
  rw [hi, if_pos (by omega)]
  exact ⟨by omega, decide_eq_true (by omega)⟩
theorem sgn_byt (page r : Int) (h : hasb page r = true) : sgn page (byt page r) = r := by
  unfold hasb at h
  have h1 : (tabl page).idxOf r < 256 := of_decide_eq_true h
  have h2 : (tabl page).idxOf r < (tabl page).length := by rw [tabl_length]; exact h1
  unfold sgn byt
  rw [if_pos h1]
  have e : (((tabl page).idxOf r : Nat) : Int).toNat = (tabl page).idxOf r := by omega
  rw [e, List.getElem?_eq_getElem h2]
  exact List.getElem_idxOf h2
theorem sgn_inj (page a b : Int) (a0 : 0 ≤ a) (a1 : a ≤ 255) (b0 : 0 ≤ b) (b1 : b ≤ 255) (h : sgn page a = sgn page b) : a = b := by
  rw [← (byt_sgn page a a0 a1).1, h, (byt_sgn page b b0 b1).1]

/-! ### Copy -/
def CpRel (L : List Int) (n : Nat) (w : World) (v i : Value) (wr : World) : Prop :=
  ∃ k : Nat, k ≤ n ∧ i = .int .i64 k ∧ wr.ownsRow w.heap.size 5 1 v k ((L.take k).map (Value.int .u8)) ∧ Below w.heap.size w wr ∧ (∃ g m c, v = .slice g m c)
theorem cp_start (w : World) (L : List Int) (n : Nat) : CpRel L n w (.slice (some ⟨w.heap.size, 0, none⟩) 0 0) (.int .i64 0) (w.alloc (.cells #[] 5)) := by
  refine ⟨0, Nat.zero_le _, rfl, ?_, (Below.refl _ w).alloc (Nat.le_refl _) _, ⟨_, _, _, rfl⟩⟩
  have := World.ownsRow_made (e := 5) (size := 1) w #[] 0 (Nat.le_refl _) (by simp [maxLen]) (by simp)
  simpa using this

set_option maxHeartbeats 2000000 in
theorem copy_any (v : Value) (L : List Int) (w : World) (hv : RowOf .u8 w v L) (hm : L.length ≤ 1000000000) :
    Calls Try.prog 31 #[v] w fun e w' => ∃ v', e = .returned v' ∧ w'.ownsRow w.heap.size 5 1 v' L.length (L.map (Value.int .u8)) ∧ Below w.heap.size w w' := by
  obtain ⟨i0, hi, hz0, hz1, hz2⟩ := info_parts infoByte2
  obtain ⟨a, cap, rfl, hra⟩ := hv
  by_cases h0 : L = []
  · subst h0
    simp only [List.length_nil]
    have hst := cp_start w [] 0
    go_enter Try.func31, Try.ntmps31
    go_wp2_with fail
    go_loopw [3, 4] (CpRel [] 0 w) (fun _ i _ => 0 - (intOf i).toNat)
    case atStart => exact hst
    case round =>
      obtain ⟨k, hk, rfl, ho, hBw, ⟨g, m, c, rfl⟩⟩ := hrel
      obtain rfl : k = 0 := by omega
      go_wp2_with fail
      go_ret
      exact ⟨_, rfl, ho, hBw⟩
  · obtain ⟨b, off, rfl, hcell⟩ := hra h0
    obtain ⟨n, hn⟩ : ∃ n, n = L.length := ⟨_, rfl⟩
    have HN := Lib.hid hn
    rw [← hn] at hm hcell ⊢
    clear hn hra h0
    have HC := Lib.hid hcell
    clear hcell
    have hst := cp_start w L n
    go_enter Try.func31, Try.ntmps31
    go_wp2_with fail
    go_loopw [3, 4] (CpRel L n w) (fun _ i _ => n - (intOf i).toNat)
    case atStart => exact hst
    case round =>
      obtain ⟨k, hk, rfl, ho, hBw, ⟨g, m, c, rfl⟩⟩ := hrel
      by_cases hlt : k < n
      · have hkn : (k : Int) < (n : Int) := by omega
        obtain ⟨x, hx⟩ : ∃ x, x = L[k]?.getD 0 := ⟨_, rfl⟩
        have hc := cell_later hBw (HC.out k hlt)
        rw [← hx] at hc
        have hsnoc := take_snoc L k (by rw [← HN.out]; exact hlt)
        have HX : Hid (L.take (k + 1) = L.take k ++ [x]) := by rw [hx]; exact hsnoc
        have hszr := hBw.size
        clear hx hsnoc
        go_wp2_with (at_builtin; refine wpList_append_own _ rfl _ _ 32 rfl w.heap.size 5 i0 (.int .u8 0) 1 1 Try.underlying32 hi hz0 hz1 hz2 rfl (by decide) _ _ _ rfl (ho.alloc _) ⟨wr.heap.size, 0, none⟩ 1 1 [.int .u8 x] rfl rfl (cell_one_new _ _ _) (by simp [Value.oneCell']) (by unfold maxLen; omega) (by omega) (by simp; omega) ?_; intro v' w2 hown' hgrow _)
        have hown2 := Lib.hid hown'
        have hshape : ∃ g m c, v' = .slice g m c := by
          rcases hown'.2 with ⟨h, _⟩ | ⟨g, cap, cur, h, _⟩
          · exact ⟨_, _, _, h⟩
          · exact ⟨_, _, _, h⟩
        have hB2 := (hBw.alloc hBw.size _).grown hgrow (by rw [World.size_alloc]; have := hBw.size; omega) (fun k e => (ho.lt k e).1)
        clear hown' hgrow
        go_roundw
        case rel =>
          refine ⟨k + 1, by omega, by go_num, ?_, hB2, hshape⟩
          rw [HX.out]; simpa using hown2.out
        case measure => simp [intOf]; omega
      · obtain rfl : k = n := by omega
        go_wp2_with fail
        go_ret
        refine ⟨_, rfl, ?_, hBw⟩
        rw [List.take_of_length_le (by rw [← HN.out]; omega)] at ho
        exact ho


end Go.Proofs.Ytpmcpllcfmgpgaa.Code
