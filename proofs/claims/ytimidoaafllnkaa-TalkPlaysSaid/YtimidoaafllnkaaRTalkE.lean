/-
  Talks beside the reference's: few events, an event as the reference's, the reference's Take in one form; what both tell alike.
-/
import Derived.Test.YtimidoaafllnkaaRTalkD
import Derived.Test.YtimidoaafllnkaaTalkG
import Derived.Test.YtimidoaafllnkaaOptPlaysC
import Derived.Test.YtimidoaafllnkaaIacD
namespace Go.Proofs.Ytimidoaafllnkaa.Talk
open Go.RowKit Base Opt Iac
set_option linter.unusedVariables false
set_option linter.unusedSimpArgs false

theorem size_rev : (Try.prog.info? 32).map (·.size) = some 4 := by kernel_rfl
theorem info_rev : (Try.prog.info? 32).map (fun i => (i.zero, i.size)) = some (some (.agg #[.int .i64 0, .int .u8 0, .int .u8 0, .slice none 0 0]), 4) := by kernel_rfl
theorem laid4 {W : World} {g : Nat} {t : TypeId} {p q r s : Value} (h : W.heap[g]? = some (.cells #[p, q, r, s] t (0, 0))) (a b c d : Value) : (((((W.setCell ⟨g, 0, none⟩ a).setCell ⟨g, 1, none⟩ b).setCell ⟨g, 2, none⟩ c).setCell ⟨g, 3, none⟩ d)).heap[g]? = some (.cells #[a, b, c, d] t (0, 0)) := by
  have h1 := heap_set (heap_set (heap_set (heap_set h 0 a) 1 b) 2 c) 3 d
  rw [h1]
  rfl
theorem old4 {w W : World} {g : Nat} (h : Below w.heap.size w W) (hg : w.heap.size ≤ g) (a b c d : Value) : Below w.heap.size w ((((W.setCell ⟨g, 0, none⟩ a).setCell ⟨g, 1, none⟩ b).setCell ⟨g, 2, none⟩ c).setCell ⟨g, 3, none⟩ d) := (((h.setCell hg _).setCell hg _).setCell hg _).setCell hg _
theorem boxed4 {W : World} {g : Nat} {a b c d : Value} {t : TypeId} (h : W.heap[g]? = some (.cells #[a, b, c, d] t (0, 0))) : W.cell? ⟨g, 0, none⟩ = some a ∧ W.cell? ⟨g, 1, none⟩ = some b ∧ W.cell? ⟨g, 2, none⟩ = some c ∧ W.cell? ⟨g, 3, none⟩ = some d :=
  ⟨by simp [World.cell?, h], by simp [World.cell?, h], by simp [World.cell?, h], by simp [World.cell?, h]⟩
set_option maxRecDepth 100000 in
set_option maxHeartbeats 4000000 in
theorem tas_any (k c o : Int) (a : Option Addr) (n cap : Nat) (w : World) : Calls Try.prog 29 #[.agg #[.int .i64 k, .int .u8 c, .int .u8 o, .slice a n cap]] w fun e w' => e = .returned (.agg #[.int .i64 k, .int .u8 c, .int .u8 o, .slice a n cap]) ∧ Below w.heap.size w w' := by
  have hz := (zero_of_info info_rev).1
  obtain ⟨W0, hW0⟩ : ∃ W0, W0 = w.alloc (.cells #[.int .i64 k, .int .u8 c, .int .u8 o, .slice a n cap] 26) := ⟨_, rfl⟩
  have hb0 := below_alloc w (.cells #[.int .i64 k, .int .u8 c, .int .u8 o, .slice a n cap] 26)
  have hn0 := heap_alloc_new w (.cells #[.int .i64 k, .int .u8 c, .int .u8 o, .slice a n cap] 26)
  have hz0 := World.size_alloc w (.cells #[.int .i64 k, .int .u8 c, .int .u8 o, .slice a n cap] 26)
  rw [← hW0] at hb0 hn0 hz0
  have b1 := below_alloc W0 (.cells #[.int .i64 0, .int .u8 0, .int .u8 0, .slice none 0 0] 32)
  have n1 := heap_alloc_new W0 (.cells #[.int .i64 0, .int .u8 0, .int .u8 0, .slice none 0 0] 32)
  obtain ⟨W1, hW1⟩ : ∃ W1, W1 = W0.alloc (.cells #[.int .i64 0, .int .u8 0, .int .u8 0, .slice none 0 0] 32) := ⟨_, rfl⟩
  rw [← hW1] at b1 n1
  rw [hz0] at n1
  have hblk := (b1.block _ (lt_of_block hn0)).trans hn0
  obtain ⟨c0, c1, c2, c3⟩ := boxed4 hblk
  obtain ⟨g, hg⟩ : ∃ g, g = w.heap.size := ⟨_, rfl⟩
  rw [← hg] at n1 c0 c1 c2 c3 hz0
  obtain ⟨q0, q1, q2, q3⟩ := boxed4 n1
  have f0 : ∀ o, W1.frozen? ⟨g + 1, o, none⟩ = false := fun o => by simp [World.frozen?, n1]
  have f00 := f0 0
  have f01 := f0 1
  have f02 := f0 2
  have f03 := f0 3
  have HB := Lib.hid (hb0.trans (b1.mono hb0.size))
  have HN := Lib.hid n1
  have HW0 := Lib.hid hW0.symm
  have HW1 := Lib.hid hW1.symm
  have HG := Lib.hid hg.symm
  have HG2 : Hid (w.heap.size ≤ g + 1) := Lib.hid (by omega)
  clear b1 n1 hblk hb0 hn0 hz0 hW0 hW1 hg f0
  go_enter Try.func29, Try.ntmps29
  go_upto_region 1 with fail
  rw [HW0.out, HW1.out, HG.out]
  go_wp2_with fail
  (try simp only [Exit.inBlock, Exit.then])
  refine bodyPost_ret (results_cell_row rfl _ _ (g + 1) 32 _ (0, 0) _ rfl (laid4 HN.out _ _ _ _) Try.underlying32 rfl size_rev) rfl ?_
  exact ⟨rfl, old4 HB.out HG2.out _ _ _ _⟩
def fewE (e : Ev) : Bool := decide (e.bytes.length ≤ 300)
def fewB (L : List Ev) : Bool := L.all fewE && decide (L.length ≤ 60)
set_option maxRecDepth 100000 in
set_option maxHeartbeats 4000000 in
theorem few_any {w : World} {v : Value} {L : List Ev} (h : EvsAt w v L) (hm : L.length ≤ maxLen) : Calls Try.prog 24 #[v] w fun e w' => e = .returned (.bool (fewB L)) ∧ Below w.heap.size w w' := by
  obtain ⟨a, cap, rfl, hr⟩ := h
  obtain ⟨N, hN⟩ : ∃ N, N = L.length := ⟨_, rfl⟩
  have hNm : N ≤ 9223372036854775807 := by simp [maxLen] at hm; omega
  rw [← hN]
  obtain ⟨B, hB⟩ : ∃ B, B = fewB L := ⟨_, rfl⟩
  rw [← hB]
  have HN := Lib.hid hN
  have HB := Lib.hid hB
  have HR := Lib.hid hr
  clear hN hB hr hm
  go_enter Try.func24, Try.ntmps24
  go_upto_region 2 with fail
  go_loopw [7] (fun i wr => ∃ j : Nat, j ≤ N ∧ i = .int .i64 j ∧ Hid ((L.take j).all fewE = true) ∧ Hid (Below w.heap.size w wr)) (fun i _ => N - (intOf i).toNat)
  case atStart => exact ⟨0, by omega, rfl, Lib.hid (by simp), Lib.hid (Below.refl _ _)⟩
  case round =>
    obtain ⟨j, hj, rfl, hall, HO⟩ := hrel
    by_cases hjn : j < N
    · have hjni : (j : Int) < (N : Int) := by omega
      have hj0 : (0 : Int) ≤ (j : Int) := Int.natCast_nonneg _
      obtain ⟨e, hee⟩ : ∃ e, L[j]? = some e := ⟨_, List.getElem?_eq_getElem (by rw [← HN.out]; exact hjn)⟩
      obtain ⟨g, off, rfl, hg, hc⟩ := HR.out (by intro e; rw [e] at hee; simp at hee)
      obtain ⟨u, d0, d1, d2, d3, hu⟩ := hc j e hee
      have d0 := (HO.out.cell (p := ⟨g, off + j * 4, none⟩) hg).trans d0
      have d1 := (HO.out.cell (p := ⟨g, off + j * 4 + 1, none⟩) hg).trans d1
      have d2 := (HO.out.cell (p := ⟨g, off + j * 4 + 2, none⟩) hg).trans d2
      have d3 := (HO.out.cell (p := ⟨g, off + j * 4 + 3, none⟩) hg).trans d3
      obtain ⟨ua, uc, rfl, _⟩ := hu
      have hal := below_alloc wr (.cells #[.int .i64 e.kind, .int .u8 e.code, .int .u8 e.option, .slice ua e.bytes.length uc] 26)
      have hnw := heap_alloc_new wr (.cells #[.int .i64 e.kind, .int .u8 e.code, .int .u8 e.option, .slice ua e.bytes.length uc] 26)
      obtain ⟨W1, hW1⟩ : ∃ W1, W1 = wr.alloc (.cells #[.int .i64 e.kind, .int .u8 e.code, .int .u8 e.option, .slice ua e.bytes.length uc] 26) := ⟨_, rfl⟩
      obtain ⟨ob, hob⟩ : ∃ ob, ob = wr.heap.size := ⟨_, rfl⟩
      rw [← hW1] at hal hnw
      rw [← hob] at hnw
      have HW1 := Lib.hid hW1.symm
      have HOB := Lib.hid hob.symm
      have HEE := Lib.hid hee
      have HO1 := Lib.hid (HO.out.trans (hal.mono HO.out.size))
      obtain ⟨dn, hdn⟩ : ∃ dn, dn = e.bytes.length := ⟨_, rfl⟩
      rw [← hdn] at d3 HW1 hnw
      have hok : fewE e = decide (dn ≤ 300) := by rw [hdn]; rfl
      have HOK := Lib.hid hok
      have HNW := Lib.hid hnw
      clear hal hnw hW1 hob hee hc hg hdn hok
      by_cases h3 : (300 : Int) < (dn : Int)
      · have hBf : B = false := by
          rw [HB.out]
          unfold fewB
          rw [show L.all fewE = false by rw [List.all_eq_false]; exact ⟨e, List.mem_of_getElem? HEE.out, by rw [HOK.out]; simp; omega⟩]
          rfl
        subst hBf
        go_upto_region 4 with fail
        rw [HW1.out, HOB.out]
        clear d0 d1 d2 d3
        obtain ⟨d0, d1, d2, d3⟩ := boxed4 HNW.out
        go_wp2_with fail
        go_ret
        exact ⟨rfl, HO1.out⟩
      · have HOK2 : Hid (fewE e = true) := Lib.hid (by rw [HOK.out]; exact decide_eq_true (by omega))
        go_upto_region 4 with fail
        rw [HW1.out, HOB.out]
        clear d0 d1 d2 d3
        obtain ⟨d0, d1, d2, d3⟩ := boxed4 HNW.out
        go_wp2_with fail
        go_roundw
        case rel => exact ⟨j + 1, by omega, by go_num, Lib.hid (by rw [List.take_add_one, HEE.out, List.all_append, hall.out]; simp [HOK2.out]), HO1⟩
        case measure => simp [intOf]; omega
    · obtain rfl : N = j := by omega
      have hA : L.all fewE = true := by
        have := hall.out
        rwa [List.take_of_length_le (by rw [← HN.out]; exact Nat.le_refl _)] at this
      have hBv : B = decide (N ≤ 60) := by rw [HB.out, HN.out]; unfold fewB; rw [hA]; rfl
      by_cases h60 : (N : Int) ≤ 60
      · obtain rfl : B = true := by rw [hBv]; exact decide_eq_true (by omega)
        clear hA hBv
        go_wp2_with fail
        go_ret
        exact ⟨rfl, HO.out⟩
      · obtain rfl : B = false := by rw [hBv]; exact decide_eq_false (by omega)
        have h60 : (60 : Int) < (N : Int) := by omega
        clear hA hBv
        go_wp2_with fail
        go_ret
        exact ⟨rfl, HO.out⟩
/-- What the reference's Take answers. -/
def rTakeR (nm : ByteArray) (A B : List Int) (R : List One) (nd : Bool) (k c : Int) (o : Nat) (Lb : List Int) : List One × Bool × List Int :=
  if k = 4 then ((rgotR A B R c o).1, nd && decide (stL (rgotR A B R c o).1 true 24 = 1), (rgotR A B R c o).2)
  else if (asks k o Lb && decide (stL R true 24 = 1)) = true then (R, true, [255, 250, 24, 0] ++ nums nm ++ [255, 240]) else (R, nd, [])
theorem rtake_all (base : Nat) (nm : ByteArray) (xa ua va ea : Option Addr) (xn xc un uc vn vc en ec : Nat) (nd : Bool) (L : List One) (A B Lb : List Int) (k c : Int) (o : Nat) (w : World) (h : OneRow base w (.slice xa xn xc) L) (hl : L.length ≤ 200) (hst : ∀ ours, stL L ours o ≤ 5) (hc0 : 0 ≤ c) (hc : c < 256)
    (hu : RowOf .u8 w (.slice ua un uc) A) (hv : RowOf .u8 w (.slice va vn vc) B) (hun : un = A.length) (hvn : vn = B.length) (hA : A.length ≤ maxLen) (hB : B.length ≤ maxLen) (hbase : base ≤ w.heap.size) (he : RowOf .u8 w (.slice ea en ec) Lb) (hns : nm.size ≤ 1000) :
    Calls Try.prog 28 #[.agg #[.string nm, .slice xa xn xc, .slice ua un uc, .slice va vn vc, .bool nd], .agg #[.int .i64 k, .int .u8 c, .int .u8 o, .slice ea en ec]] w (RTakeK base nm (.slice ua un uc) (.slice va vn vc) (rTakeR nm A B L nd k c o Lb) w) := by
  unfold rTakeR
  by_cases hk : k = 4
  · subst hk
    rw [if_pos rfl]
    obtain ⟨c, rfl⟩ : ∃ n : Nat, c = n := ⟨c.toNat, by omega⟩
    exact rtake_verb base nm xa ua va xn xc un uc vn vc nd L A B c o _ w h hl hst (by omega) hu hv hun hvn hA hB hbase
  · rw [if_neg hk]
    have hk' : (k == 4) = false := by simpa using hk
    by_cases hno : (asks k o Lb && decide (stL L true 24 = 1)) = true
    · rw [if_pos hno]
      rw [Bool.and_eq_true] at hno
      obtain ⟨h1, h2⟩ := hno
      unfold asks at h1
      obtain ⟨rfl, h24, rfl⟩ := of_decide_eq_true h1
      obtain ⟨a', c', e1, e2⟩ := id he
      injection e1 with _ e3 _
      have e3 : en = 1 := e3
      subst e3
      rw [h24]
      exact rtake_tell base nm xa ua va ea xn xc un uc vn vc ec nd L A B c w h hl hu hv he h2 hns
    · rw [if_neg hno]
      exact rtake_else base nm xa ua va ea xn xc un uc vn vc en ec nd L A B Lb k c o w h hl hu hv he hk' (by simpa using hno)
theorem esc_plain (L : List Int) (h : ∀ x ∈ L, x ≠ 255) : escL L = L := by
  induction L with
  | nil => rfl
  | cons x L ih =>
    have h1 := h x (by simp)
    have h2 := ih fun y hy => h y (by simp [hy])
    show (if x = 255 then [255, 255] else [x]) ++ escL L = x :: L
    rw [if_neg h1, h2]
    rfl
theorem cleaned_plain (s : ByteArray) : ∀ x ∈ nums (cleaned s), x ≠ 255 := by
  rw [nums_cleaned]
  intro x hx
  unfold cleanL at hx
  obtain ⟨y, _, rfl⟩ := List.mem_map.1 hx
  unfold cl
  split <;> omega
theorem tell_plain (nm : ByteArray) (h : ∀ x ∈ nums nm, x ≠ 255) : tellL 24 (0 :: nums nm) = [255, 250, 24, 0] ++ nums nm ++ [255, 240] := by
  unfold tellL
  rw [esc_plain (0 :: nums nm) (fun x hx => by rcases List.mem_cons.1 hx with rfl | hx; omega; exact h x hx), esc_plain [24] (by simp)]
  simp
/-- Behind an event both tell alike. -/
theorem Like.take {R : List One} {S : Nat → Nat} (h : Like R S) (nm : ByteArray) (hnm : ∀ x ∈ nums nm, x ≠ 255) (A B : List Int) (hA : IsBytes A) (hB : IsBytes B) (ndp ndr : Bool) (hnd : ndr = (ndp && typeOn S)) (k c : Int) (o : Nat) (ho : o < 256) (Lb : List Int) :
    Like (rTakeR nm A B R ndr k c o Lb).1 (takeR nm (mayM A B) S ndp k c o Lb).1 ∧ (rTakeR nm A B R ndr k c o Lb).2.1 = ((takeR nm (mayM A B) S ndp k c o Lb).2.1 && typeOn (takeR nm (mayM A B) S ndp k c o Lb).1) ∧ (rTakeR nm A B R ndr k c o Lb).2.2 = (takeR nm (mayM A B) S ndp k c o Lb).2.2 ∧ (rTakeR nm A B R ndr k c o Lb).1.length ≤ R.length + 1 := by
  have hs := h.same true 24 (by omega)
  have ht : typeOn S = decide (stL R true 24 = 1) := by unfold typeOn; rw [hs]
  unfold rTakeR takeR
  by_cases hk : k = 4
  · rw [if_pos hk, if_pos hk]
    obtain ⟨g1, g2, g3⟩ := h.got A B hA hB c o ho
    refine ⟨g1, ?_, g2, g3⟩
    have hs' := g1.same true 24 (by omega)
    show (ndr && _) = _
    rw [hnd]
    simp only
    unfold typeOn
    rw [hs']
  · rw [if_neg hk, if_neg hk, ht]
    split
    · next hq =>
      rw [Bool.and_eq_true] at hq
      refine ⟨h, ?_, (tell_plain nm hnm).symm, by simp⟩
      show true = (true && typeOn S)
      rw [ht, hq.2]; rfl
    · refine ⟨h, ?_, rfl, by simp⟩
      show ndr = ((ndp && _) && typeOn S)
      rw [hnd, ← ht]
      cases ndp <;> cases typeOn S <;> rfl
end Go.Proofs.Ytimidoaafllnkaa.Talk
