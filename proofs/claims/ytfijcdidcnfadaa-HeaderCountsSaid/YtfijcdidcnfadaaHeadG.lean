/-
  The reference's Got.
-/
import Derived.Test.YtfijcdidcnfadaaHeadF
namespace Go.Proofs.Ytfijcdidcnfadaa.Head
open Go.RowKit Base
set_option linter.unusedVariables false

theorem erase_take_yes (P : List Int) (x : Int) (k : Nat) (hk : k < P.length) (hx : x ∉ P.take k) (he : P[k]?.getD 0 = x) : (P.take (k + 1)).erase x = (P.take k).erase x ∧ x ∈ P.take (k + 1) := by
  have e : P[k] = x := by rw [← he]; simp [hk]
  rw [List.take_succ_eq_append_getElem hk, e]
  exact ⟨by rw [List.erase_append_right _ hx, List.erase_of_not_mem hx]; simp, by simp⟩
theorem erase_take_no (P : List Int) (x : Int) (k : Nat) (hk : k < P.length) (h : x ∈ P.take k ∨ P[k]?.getD 0 ≠ x) : (P.take (k + 1)).erase x = (P.take k).erase x ++ [P[k]?.getD 0] ∧ decide (x ∈ P.take (k + 1)) = decide (x ∈ P.take k) := by
  have e : P[k]?.getD 0 = P[k] := by simp [hk]
  rw [e] at h ⊢
  rw [List.take_succ_eq_append_getElem hk]
  rcases h with h | h
  · exact ⟨by rw [List.erase_append_left _ h], by rw [decide_eq_true (List.mem_append_left _ h), decide_eq_true h]⟩
  · by_cases hm : x ∈ P.take k
    · exact ⟨by rw [List.erase_append_left _ hm], by rw [decide_eq_true (List.mem_append_left _ hm), decide_eq_true hm]⟩
    · refine ⟨by rw [List.erase_append_right _ hm, List.erase_of_not_mem hm, List.erase_of_not_mem (by simpa using fun e => h e.symm)], ?_⟩
      have : x ∉ P.take k ++ [P[k]] := fun hx => (List.mem_append.1 hx).elim hm fun hx => h (List.mem_singleton.1 hx).symm
      rw [decide_eq_false this, decide_eq_false hm]
def GotRel (s : Nat) (W1 : World) (P : List Int) (x : Int) (n : Nat) (v f i : Value) (wr : World) : Prop :=
  ∃ k : Nat, k ≤ n ∧ i = .int .i64 k ∧ f = .bool (decide (x ∈ P.take k)) ∧ OwnInts (s + 2) wr v ((P.take k).erase x) ∧ Below (s + 2) W1 wr
set_option maxRecDepth 100000 in
set_option maxHeartbeats 4000000 in
theorem rgot_any (nx : Int) (u : Value) (P : List Int) (x : Int) (w : World) (hr : CutInt w u P) (hl : P.length ≤ 64) :
    Calls Try.prog 30 #[.agg #[.int .i64 nx, u], .int .i64 x] w fun e w' => ∃ u', e = .returned (.tuple #[.agg #[.int .i64 nx, u'], .bool (decide (x ∈ P))]) ∧ CutIn (fun b => w.heap.size ≤ b) w' u' (P.erase x) ∧ Below w.heap.size w w' := by
  have hz := (zero_of_info info_rc).1
  obtain ⟨s, hs⟩ : ∃ s, s = w.heap.size := ⟨_, rfl⟩
  have HS := Lib.hid hs.symm
  have HR := Lib.hid hr
  rw [← hs]
  obtain ⟨hrr, ua, uc, rfl, _⟩ := hr
  obtain ⟨n, hn⟩ : ∃ n, n = P.length := ⟨_, rfl⟩
  rw [← hn] at hl HR ⊢
  have HN := Lib.hid hn
  clear hs hn hrr
  go_enter Try.func30, Try.ntmps30
  go_upto_region 1 with fail
  rw [HS.out]
  have hq0 : RQ w s nx (.slice ua n uc) #[.int .i64 0, .slice none 0 0] ((w.alloc (.cells #[.int .i64 nx, .slice ua n uc] 52)).alloc (.cells #[.int .i64 0, .slice none 0 0] 52)) := by
    have z1 : (w.alloc (.cells #[.int .i64 nx, .slice ua n uc] 52)).heap.size = s + 1 := by rw [World.size_alloc, HS.out]
    refine ⟨(((Below.refl s w).alloc (by rw [HS.out]; omega) _).alloc (by rw [z1]; omega) _), ?_, ?_⟩
    · rw [Below.heap_alloc _ _ _ (by rw [z1]; omega), ← HS.out]; exact heap_alloc_new w _
    · rw [← z1]; exact heap_alloc_new _ _
  have hz0 : ((w.alloc (.cells #[.int .i64 nx, .slice ua n uc] 52)).alloc (.cells #[.int .i64 0, .slice none 0 0] 52)).heap.size = s + 2 := by rw [World.size_alloc, World.size_alloc, HS.out]
  obtain ⟨W0, hW0⟩ : ∃ W0, W0 = (w.alloc (.cells #[.int .i64 nx, .slice ua n uc] 52)).alloc (.cells #[.int .i64 0, .slice none 0 0] 52) := ⟨_, rfl⟩
  rw [← hW0] at hq0 hz0 ⊢
  have ho1 := own0I (s := s + 2) (w := W0) (by omega)
  have hb1 := below_alloc W0 (.cells #[] 3)
  obtain ⟨W1, hW1⟩ : ∃ W1, W1 = W0.alloc (.cells #[] 3) := ⟨_, rfl⟩
  rw [← hW1] at ho1 hb1
  rw [hz0] at ho1 hb1
  have hz1 : s + 2 ≤ W1.heap.size := by have := hb1.size; omega
  have hq1 := hq0.below (Nat.le_refl _) hb1
  have HQ1 := Lib.hid hq1
  have HO1 := Lib.hid ho1
  have HZ0 := Lib.hid hz0
  have HZ1 := Lib.hid hz1
  have HW1 := Lib.hid hW1.symm
  clear hq0 ho1 hb1 hW1 hW0 hz0 hq1
  go_upto_region 4 with fail
  rw [HZ0.out, HW1.out]
  go_loopw [6, 7, 8] (fun v f i wr => GotRel s W1 P x n v f i wr) (fun _ _ i _ => n - (intOf i).toNat)
  case atStart => exact ⟨0, by omega, rfl, by simp, by simpa using HO1.out, Below.refl _ _⟩
  case round =>
    obtain ⟨k, hk, rfl, rfl, hown, hold⟩ := hrel
    have hq := HQ1.out.below (Nat.le_refl _) hold
    obtain ⟨c0, c1, f0, f1⟩ := hq.c
    have hszr : s + 2 ≤ wr.heap.size := by have := hold.size; have := HZ1.out; omega
    by_cases hkn : k < n
    · have hkl : k < P.length := by rw [← HN.out]; exact hkn
      have hrw := HR.out.1.below (show Below w.heap.size w wr by rw [HS.out]; exact hq.old)
      obtain ⟨a', c', e', hc⟩ := hrw
      injection e' with e1 e2 e3
      subst e1 e3
      obtain ⟨g, off, rfl, hcell⟩ := hc (by intro e; rw [e] at hkl; simp at hkl)
      have d1 := hcell k hkl
      obtain ⟨y, hy⟩ : ∃ y, y = P[k]?.getD 0 := ⟨_, rfl⟩
      rw [← hy] at d1
      have hkn' : (k : Int) < (n : Int) := by omega
      have hlen : ((P.take k).erase x).length ≤ k := Nat.le_trans List.length_erase_le (by rw [List.length_take]; omega)
      have HOWN := Lib.hid hown
      have HOLD := Lib.hid hold
      have HL := Lib.hid hlen
      by_cases hfy : y = x ∧ x ∉ P.take k
      · obtain ⟨q1, q2⟩ := erase_take_yes P x k hkl hfy.2 (by rw [← hy]; exact hfy.1)
        have hdn : decide (x ∈ P.take k) = false := decide_eq_false hfy.2
        have t1 : (y == x) = true := by simpa using hfy.1
        have H1 := Lib.hid q1
        have H2 := Lib.hid (decide_eq_true q2)
        obtain ⟨b, hb⟩ : ∃ b, b = decide (x ∈ P.take k) := ⟨_, rfl⟩
        rw [← hb] at hdn ⊢
        subst hdn
        clear hy hc hcell hown hold hq e2 hlen hfy q1 q2 hb hkl f0 f1
        go_wp2_with fail
        go_roundw
        case rel => exact ⟨k + 1, by omega, by go_num, by rw [H2.out], by rw [H1.out]; exact HOWN.out, HOLD.out⟩
        case measure => simp [intOf]; omega
      · have hor : x ∈ P.take k ∨ P[k]?.getD 0 ≠ x := by
          by_cases h : x ∈ P.take k
          · exact .inl h
          · exact .inr fun e => hfy ⟨by rw [hy]; exact e, h⟩
        obtain ⟨q1, q2⟩ := erase_take_no P x k hkl hor
        rw [← hy] at q1
        have H1 := Lib.hid q1
        have H2 := Lib.hid q2
        have HOB := Lib.hid (hown.below (below_alloc wr (.cells #[.int .i64 y] 3)))
        have HRO := Lib.hid (row_oneI wr y 3)
        have HAB := Lib.hid ((hold.alloc hszr (.cells #[.int .i64 y] 3)))
        obtain ⟨b, hb⟩ : ∃ b, b = decide (x ∈ P.take k) := ⟨_, rfl⟩
        have hby : b = true ∨ (y == x) = false := by
          rcases hor with h | h
          · exact .inl (by rw [hb]; exact decide_eq_true h)
          · exact .inr (by rw [hy]; simpa using h)
        rw [← hb] at q2 ⊢
        rw [← hb] at H2
        clear hy hc hcell hown hold hq e2 hlen hfy q1 q2 hb hkl hor f0 f1
        rcases hby with rfl | t1
        · by_cases hxy : y = x
          · have t1 : (y == x) = true := by simpa using hxy
            clear hxy
            go_wp2_with (at_builtin; refine append_int rfl _ _ rfl HOB.out HRO.out (fun _ _ h => by cases h) rfl rfl (by have := HL.out; simp; omega) (by rw [World.size_alloc]; omega) HAB.out ?_; intro v3 W3 hown hold _ _; have HO3 := Lib.hid hown; have HB3 := Lib.hid hold; clear hown hold)
            go_roundw
            case rel => exact ⟨k + 1, by omega, by go_num, by rw [H2.out], by rw [H1.out]; exact HO3.out, HB3.out⟩
            case measure => simp [intOf]; omega
          · have t1 : (y == x) = false := by simpa using hxy
            clear hxy
            go_wp2_with (at_builtin; refine append_int rfl _ _ rfl HOB.out HRO.out (fun _ _ h => by cases h) rfl rfl (by have := HL.out; simp; omega) (by rw [World.size_alloc]; omega) HAB.out ?_; intro v3 W3 hown hold _ _; have HO3 := Lib.hid hown; have HB3 := Lib.hid hold; clear hown hold)
            go_roundw
            case rel => exact ⟨k + 1, by omega, by go_num, by rw [H2.out], by rw [H1.out]; exact HO3.out, HB3.out⟩
            case measure => simp [intOf]; omega
        · go_wp2_with (at_builtin; refine append_int rfl _ _ rfl HOB.out HRO.out (fun _ _ h => by cases h) rfl rfl (by have := HL.out; simp; omega) (by rw [World.size_alloc]; omega) HAB.out ?_; intro v3 W3 hown hold _ _; have HO3 := Lib.hid hown; have HB3 := Lib.hid hold; clear hown hold)
          go_roundw
          case rel => exact ⟨k + 1, by omega, by go_num, by rw [H2.out], by rw [H1.out]; exact HO3.out, HB3.out⟩
          case measure => simp [intOf]; omega
    · obtain rfl : n = k := by omega
      have htk : P.take n = P := List.take_of_length_le (by rw [← HN.out]; exact Nat.le_refl _)
      rw [htk] at hown ⊢
      obtain ⟨b, hb⟩ : ∃ b, b = decide (x ∈ P) := ⟨_, rfl⟩
      rw [← hb]
      have HBB := Lib.hid hb
      have HOWN := Lib.hid hown
      have HQR := Lib.hid hq
      have f01 := f0 1
      obtain ⟨va, vc, rfl⟩ := hown.slice
      obtain ⟨m, hm⟩ : ∃ m, m = (P.erase x).length := ⟨_, rfl⟩
      have HM := Lib.hid hm
      rw [← hm] at HOWN ⊢
      clear hown hold hq htk hb hm f0 f1
      go_upto_region 10 with fail
      have hq5 := HQR.out.set (.slice va m vc)
      have hcut : CutInt (wr.setCell ⟨s, 1, none⟩ (.slice va m vc)) (.slice va m vc) (P.erase x) := (HOWN.out.keep fun k hk _ => Below.heap_setCell _ _ _ _ (by show k ≠ s; omega)).cut
      have hown5 : OwnInts (s + 2) (wr.setCell ⟨s, 1, none⟩ (.slice va m vc)) (.slice va m vc) (P.erase x) := HOWN.out.keep fun k hk _ => Below.heap_setCell _ _ _ _ (by show k ≠ s; omega)
      obtain ⟨W5, hW5⟩ : ∃ W5, W5 = wr.setCell ⟨s, 1, none⟩ (.slice va m vc) := ⟨_, rfl⟩
      rw [← hW5] at hq5 hown5 ⊢
      have HQ5 := Lib.hid hq5
      have HO5 := Lib.hid hown5
      obtain ⟨x0, x1, h0, h1⟩ := hq5.c
      obtain ⟨y0, y1⟩ := hq5.rc
      have h10 := h1 0
      have h11 := h1 1
      clear hq5 hown5 hcut h0 h1 hW5 f01 c0 c1
      go_wp2_with fail
      obtain ⟨r1, r2, r3⟩ := HQ5.out.fin (.slice va m vc)
      refine bodyPost_ret (results_row_tmp1 rfl _ _ (s + 1) _ rfl (load_rc r1 rfl)) rfl ?_
      exact ⟨_, by rw [← HBB.out]; rfl, ((HO5.out.keep fun k hk _ => r3 k (by omega)).lower (by omega)).cutIn, r2⟩
end Go.Proofs.Ytfijcdidcnfadaa.Head
