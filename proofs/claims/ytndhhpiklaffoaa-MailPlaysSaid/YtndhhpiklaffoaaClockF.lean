/-
  The clock's lay: an alarm is put where it belongs.
-/
import Derived.Test.YtndhhpiklaffoaaClockE
import Derived.IntWalk
namespace Go.Proofs.Ytndhhpiklaffoaa.Clock
open Go.RowKit
open Mail (Turn ret_int ret_bool)
set_option linter.unusedVariables false

def CB (w : World) (b : Nat) (now : Int) (L : List (Int × Int)) (W : World) : Prop := ClockAt W b now L ∧ Below w.heap.size w W
theorem layKeep {w W w' : World} {b : Nat} {now : Int} {L : List (Int × Int)} {a1 a2 : Addr} {v1 v2 : Value} (hb : Below W.heap.size W w') (h : W.cell? a1 = some v1 ∧ W.cell? a2 = some v2 ∧ CB w b now L W) :
    w'.cell? a1 = some v1 ∧ w'.cell? a2 = some v2 ∧ CB w b now L w' := ⟨cellL hb h.1, cellL hb h.2.1, h.2.2.1.below hb, h.2.2.2.trans (hb.mono h.2.2.2.size)⟩
theorem layKeepD {w W w' : World} {b : Nat} {now : Int} {L : List (Int × Int)} {a1 a2 : Addr} {v1 v2 : Value} (h : W.cell? a1 = some v1 ∧ W.cell? a2 = some v2 ∧ CB w b now L W) (hb : Below W.heap.size W w') :
    w'.cell? a1 = some v1 ∧ w'.cell? a2 = some v2 ∧ CB w b now L w' := layKeep hb h
theorem layClock {w W : World} {b : Nat} {now : Int} {L : List (Int × Int)} {a1 a2 : Addr} {v1 v2 : Value} (h : W.cell? a1 = some v1 ∧ W.cell? a2 = some v2 ∧ CB w b now L W) : ClockAt W b now L := h.2.2.1
theorem below_drewN' (W : World) (n : Nat) : Below W.heap.size W (W.drewN n) := ⟨rfl, rfl, rfl, Nat.le_refl _, fun _ _ => rfl⟩
theorem below_drew' (W : World) : Below W.heap.size W W.drew := ⟨rfl, rfl, rfl, Nat.le_refl _, fun _ _ => rfl⟩
/-- The copy, as one step of a region that draws. -/
theorem step_copy2 {ops : Array Oper} {o : Oper} {a : Act} {w : World} {K : Act → World → Prop} {Q : Exit → Act → World → Prop} {E : Prop} (hgd : o.guard = none) (d s : Operand)
    (ho : o.op = .call { callee := .builtin .copy, args := #[d, s], argTypes := #[103, 103] }) (b off dLen dCap : Nat) (ad : Addr) (sLen sCap : Nat) (ps : List (Int × Int))
    (hd : a.eval d = .slice (some ⟨b, off, none⟩) dLen dCap) (hs : a.eval s = .slice (some ad) sLen sCap) (hn : ps.length = Nat.min sLen dLen)
    (hsrc : ∀ j v, (flat ps)[j]? = some v → w.cell? (ad.add j) = some v) (hc : ∀ j, j < (flat ps).length → (w.cell? ⟨b, off + j, none⟩).isSome = true) (hf : ∀ j, j < (flat ps).length → w.frozen? ⟨b, off + j, none⟩ = false)
    (hK : K (a.put o.dst (.int .i64 ps.length)) (w.setCells b off (flat ps))) : if Region.wanted o (yielded ops a.tmps) = true then Oper.wp Try.prog o a w K Q else E := by
  have hw : Region.wanted o (yielded ops a.tmps) = true := by simp [Region.wanted, hgd]
  rw [if_pos hw]
  have hrun := run_copy2 w o.type b off dLen dCap ad sLen sCap ps hn hsrc hc hf
  unfold Oper.wp
  simp [execOp, ho, resolve, invoke, builtin, hd, hs, hrun, Result.andThen, goInt]
  exact hK
/-- What a lay leaves. -/
def LayPost (w : World) (b : Nat) (now : Int) (L : List (Int × Int)) (p : Int × Int) (e : Ending) (w' : World) : Prop :=
  e = .returned (.tuple #[]) ∧ ∃ i, i ≤ L.length ∧ (∀ l, l < i → ordI (L.getD l (0, 0)) p < 0) ∧ (∀ l, i ≤ l → l < L.length → 0 ≤ ordI (L.getD l (0, 0)) p) ∧ ClockAt w' b now (L.take i ++ p :: L.drop i) ∧ Turn (At b) w w'
theorem lay_done {W : World} {b : Nat} {now : Int} {L : List (Int × Int)} {M : Nat → Int × Int} {n i : Nat} (p1 p2 : Int) (hn : n = L.length) (hl : n < 64) (hi : i ≤ n) (hR : Raw W b now M n)
    (h1 : ∀ q, q < i → M q = L.getD q (0, 0)) (h2 : ∀ q, i < q → q ≤ n → M q = L.getD (q - 1) (0, 0)) :
    ClockAt (((W.setCell ⟨b, 1 + i * 2, none⟩ (.int .i64 p1)).setCell ⟨b, 1 + i * 2 + 1, none⟩ (.int .i64 p2)).setCell ⟨b, 129, none⟩ (.int .i64 ((n : Int) + 1))).drew b now (L.take i ++ (p1, p2) :: L.drop i) ∧
      Turn (At b) W (((W.setCell ⟨b, 1 + i * 2, none⟩ (.int .i64 p1)).setCell ⟨b, 1 + i * 2 + 1, none⟩ (.int .i64 p2)).setCell ⟨b, 129, none⟩ (.int .i64 ((n : Int) + 1))).drew := by
  have hlen : (L.take i ++ (p1, p2) :: L.drop i).length = n + 1 := by simp; omega
  have h := heap_set (heap_set (heap_set (show W.heap[b]? = _ from hR) (1 + i * 2) (.int .i64 p1)) (1 + i * 2 + 1) (.int .i64 p2)) 129 (.int .i64 ((n : Int) + 1))
  rw [clk_set now M n i (p1, p2) (by omega), clk_many] at h
  refine ⟨⟨set1 M i (p1, p2), fun q hq => ?_, by omega, by rw [hlen]; exact h⟩, rfl, rfl, rfl, by show W.heap.size ≤ (((W.setCell _ _).setCell _ _).setCell _ _).heap.size; simp, fun q hq hS => ?_⟩
  · rw [hlen] at hq
    unfold set1
    by_cases e : q = i
    · subst e
      rw [if_pos rfl]
      simp [List.getD, show min q L.length = q by omega]
    · rw [if_neg e]
      by_cases e2 : q < i
      · rw [h1 q e2]
        simp only [List.getD]
        rw [List.getElem?_append_left (by rw [List.length_take]; omega), List.getElem?_take_of_lt e2]
      · rw [h2 q (by omega) (by omega)]
        simp only [List.getD]
        rw [List.getElem?_append_right (by rw [List.length_take]; omega), List.length_take, show min i L.length = i by omega, show q - i = (q - i - 1) + 1 by omega, List.getElem?_cons_succ, List.getElem?_drop, show i + (q - i - 1) = q - 1 by omega]
  · show (((W.setCell _ _).setCell _ _).setCell _ _).heap[q]? = _
    have hq' : q ≠ b := fun e => hS e
    rw [Below.heap_setCell _ _ _ _ hq', Below.heap_setCell _ _ _ _ hq', Below.heap_setCell _ _ _ _ hq']
set_option maxRecDepth 100000 in
set_option maxHeartbeats 2000000 in
theorem lay_any {b : Nat} {now : Int} {L : List (Int × Int)} (p1 p2 : Int) (w : World) (h : ClockAt w b now L) (hl : L.length < 64) (hm : Mono L (p1, p2)) :
    Calls Try.prog 45 #[.pointer (some ⟨b, 0, none⟩), .agg #[.int .i64 p1, .int .i64 p2]] w (LayPost w b now L (p1, p2)) := by
  have hb0 : Below w.heap.size w (w.alloc (.cells #[.int .i64 p1, .int .i64 p2] 54)) := (Below.refl _ w).alloc (Nat.le_refl _) _
  have a1 : (w.alloc (.cells #[.int .i64 p1, .int .i64 p2] 54)).cell? ⟨w.heap.size, 0, none⟩ = some (.int .i64 p1) := by simp [go_sem]
  have a2 : (w.alloc (.cells #[.int .i64 p1, .int .i64 p2] 54)).cell? ⟨w.heap.size, 1, none⟩ = some (.int .i64 p2) := by simp [go_sem]
  have hcb : CB w b now L (w.alloc (.cells #[.int .i64 p1, .int .i64 p2] 54)) := ⟨h.below hb0, hb0⟩
  have HM := Lib.hid hm
  clear hm hb0
  go_enter Try.func45, Try.ntmps45
  go_upto_region 1 with fail
  go_region_held3 (fun w' => w'.cell? ⟨w.heap.size, 0, none⟩ = some (.int .i64 p1) ∧ w'.cell? ⟨w.heap.size, 1, none⟩ = some (.int .i64 p2) ∧ CB w b now L w')
    ((first | exact layKeep (by assumption) (by assumption) | (refine layKeepD (by assumption) ?_; exact ⟨rfl, rfl, rfl, Nat.le_refl _, fun _ _ => rfl⟩) | exact layKeep (below_drew' _) ⟨by assumption, by assumption, by assumption⟩))
    (first
    | (go_at_call 48; refine (there_any (layClock (by assumption))).mono ?_; rintro e w' ⟨rfl, n, rfl⟩)
    | (go_at_call 52; refine (search_any _ _ _ (layClock (by assumption)) HM.out).mono ?_; rintro e w' ⟨i, f, rfl, hi1, hi2, hi3, hb'⟩))
  obtain ⟨s1, s2, ⟨M, hM, hL64, hraw⟩, hbw⟩ := (by assumption : w'.cell? ⟨w.heap.size, 0, none⟩ = some (.int .i64 p1) ∧ w'.cell? ⟨w.heap.size, 1, none⟩ = some (.int .i64 p2) ∧ CB w b now L w')
  obtain ⟨n, hn⟩ : ∃ n, n = L.length := ⟨_, rfl⟩
  have hR : Raw w' b now M n := by rw [hn]; exact hraw
  rw [← hn] at hi1 hi3 hM hl ⊢
  have hbb : b < w.heap.size := h.lt
  have HN := Lib.hid hn
  have HR := Lib.hid hR
  have HMM := Lib.hid hM
  have H2 := Lib.hid hi2
  have H3 := Lib.hid hi3
  have HBW := Lib.hid hbw
  have hMany : w'.drew.cell? ⟨b, 129, none⟩ = some (.int .i64 n) := by
    have := clk_get now M n 129 (by omega)
    simpa [World.cell?, show w'.drew.heap[b]? = _ from hR, cellOf] using this
  have hR1 : Raw w'.drew b now M n := hR
  clear hb' hraw hM hn hi2 hi3 hR hbw a1 a2 hcb h HM hL64
  have gi : (i : Int) ≤ (n : Int) := by omega
  have gn : (n : Int) ≤ 63 := by omega
  have gi2 : (i : Int) ≤ 63 := by omega
  have gn64 : (n : Int) ≤ 64 := by omega
  have gi64 : (i : Int) ≤ 64 := by omega
  have hi64 : ¬ 64 = i := by omega
  by_cases h63 : i = 63
  · subst h63
    obtain rfl : n = 63 := by omega
    go_upto_region 2 with fail
    have gw : IntKind.i64.wrap 64 = 64 := by decide
    go_region_law (refine step_copy2 rfl (.tmp 18) (.tmp 27) rfl b 1 0 0 ⟨b, 1 + 63 * 2, none⟩ 0 1 [] (by simp [Act.eval, Act.put]) (by simp [Act.eval, Act.put]) (by simp) (fun q u hq => by simp [flat] at hq) (fun q hq => by simp [flat] at hq) (fun q hq => by simp [flat] at hq) ?_)
    have hR2 := hR1
    have ht2 : Turn (At b) w' w'.drew := ⟨rfl, rfl, rfl, Nat.le_refl _, fun _ _ _ => rfl⟩
    change Exit.then _ _ Exit.normal _ w'.drew
    obtain ⟨W2, hW2⟩ : ∃ W2, W2 = w'.drew := ⟨_, rfl⟩
    rw [← hW2] at hR2 ht2 ⊢
    have hne : w.heap.size ≠ b := by omega
    have hlt2 : w.heap.size < w'.heap.size := World.block_lt_of_cell? w' _ s1
    have d1 : W2.cell? ⟨w.heap.size, 0, none⟩ = some (.int .i64 p1) := (World.cell?_of_block (a := ⟨w.heap.size, 0, none⟩) (ht2.block _ hlt2 hne)).trans s1
    have d2 : W2.cell? ⟨w.heap.size, 1, none⟩ = some (.int .i64 p2) := (World.cell?_of_block (a := ⟨w.heap.size, 1, none⟩) (ht2.block _ hlt2 hne)).trans s2
    have c1 := hR2.cellDue 63 (by omega)
    have c2 := hR2.cellId 63 (by omega)
    have f1 := hR2.frozen (1 + 63 * 2)
    have f2 := hR2.frozen (1 + 63 * 2 + 1)
    have hM129 : W2.cell? ⟨b, 129, none⟩ = some (.int .i64 63) := by
      have := clk_get now M 63 129 (by omega)
      simpa [World.cell?, show W2.heap[b]? = _ from hR2, cellOf] using this
    have f3 := hR2.frozen 129
    have HR2 := Lib.hid hR2
    have HT2 := Lib.hid ht2
    simp only [Nat.reduceMul, Nat.reduceAdd] at c1 c2 f1 f2
    clear s1 s2 hMany hR1 hW2 ht2 hR2 gw hlt2
    go_wp2
    go_region
    go_wp2
    refine bodyPost_end (results_none rfl _ _ _) rfl ?_
    obtain ⟨k1, k2⟩ := lay_done p1 p2 HN.out hl hi1 HR2.out (fun q hq => HMM.out q (by omega)) (fun q hq hqn => by omega)
    exact ⟨rfl, 63, by rw [← HN.out]; exact Nat.le_refl _, H2.out, by rw [← HN.out]; exact H3.out, k1, (Mail.Turn.of_below (HBW.out)).trans (HT2.out.trans k2)⟩
  · have h63' : ¬ 64 = i + 1 := by omega
    have gi3 : (i : Int) + 1 ≤ 64 := by omega
    have gi4 : (0 : Int) ≤ (i : Int) + 1 := by omega
    have gw : IntKind.i64.wrap ((i : Int) + 1) = (i : Int) + 1 := IntWalk.i64_in _ (by omega)
    have gt : ((i : Int) + 1).toNat = i + 1 := by omega
    go_upto_region 2 with fail
    go_region_law (refine step_copy2 rfl (.tmp 18) (.tmp 27) rfl b (1 + (i + 1) * 2) (64 - (i + 1)) (64 - (i + 1)) ⟨b, 1 + i * 2, none⟩ (n - i) (64 - i) (seg M i (n - i)) (by simp [Act.eval, Act.put]) (by simp [Act.eval, Act.put]) (by rw [seg_length]; exact (Nat.min_eq_left (by omega)).symm) (hR1.cells i (n - i) (by omega)) (hR1.room (i + 1) (seg M i (n - i)) (by rw [seg_length]; omega)) (fun q hq => hR1.frozen _) ?_)
    have hR2 := hR1.setL (i + 1) (seg M i (n - i)) (by rw [seg_length]; omega)
    have ht2 : Turn (At b) w' (w'.drew.setCells b (1 + (i + 1) * 2) (flat (seg M i (n - i)))) := (⟨rfl, rfl, rfl, Nat.le_refl _, fun _ _ _ => rfl⟩ : Turn (At b) w' w'.drew).trans (turn_setCells w'.drew b _ _)
    obtain ⟨W2, hW2⟩ : ∃ W2, W2 = w'.drew.setCells b (1 + (i + 1) * 2) (flat (seg M i (n - i))) := ⟨_, rfl⟩
    rw [← hW2] at hR2 ht2 ⊢
    have hne : w.heap.size ≠ b := by omega
    have hlt2 : w.heap.size < w'.heap.size := World.block_lt_of_cell? w' _ s1
    have d1 : W2.cell? ⟨w.heap.size, 0, none⟩ = some (.int .i64 p1) := (World.cell?_of_block (a := ⟨w.heap.size, 0, none⟩) (ht2.block _ hlt2 hne)).trans s1
    have d2 : W2.cell? ⟨w.heap.size, 1, none⟩ = some (.int .i64 p2) := (World.cell?_of_block (a := ⟨w.heap.size, 1, none⟩) (ht2.block _ hlt2 hne)).trans s2
    obtain ⟨M2, hM2⟩ : ∃ M2, M2 = setL M (i + 1) (seg M i (n - i)) := ⟨_, rfl⟩
    rw [← hM2] at hR2
    have c1 := hR2.cellDue i (by omega)
    have c2 := hR2.cellId i (by omega)
    have f1 := hR2.frozen (1 + i * 2)
    have f2 := hR2.frozen (1 + i * 2 + 1)
    have hM129 : W2.cell? ⟨b, 129, none⟩ = some (.int .i64 n) := by
      have := clk_get now M2 n 129 (by omega)
      simpa [World.cell?, show W2.heap[b]? = _ from hR2, cellOf] using this
    have f3 := hR2.frozen 129
    have n1 : ¬ 129 = 1 + i * 2 := by omega
    have n2 : ¬ 129 = 1 + i * 2 + 1 := by omega
    have HM2 := Lib.hid hM2
    have HR2 := Lib.hid hR2
    have HT2 := Lib.hid ht2
    clear s1 s2 hMany hR1 hW2 ht2 hR2 hM2 gw gt gi4 hlt2
    go_wp2
    go_region
    go_wp2
    refine bodyPost_end (results_none rfl _ _ _) rfl ?_
    obtain ⟨k1, k2⟩ := lay_done p1 p2 HN.out hl hi1 HR2.out (fun q hq => by rw [HM2.out, setL_get, if_neg (by omega)]; exact HMM.out q (by omega))
      (fun q hq hqn => by rw [HM2.out, setL_get, seg_length, if_pos (by omega), seg_get _ _ _ _ (by omega), show i + (q - (i + 1)) = q - 1 by omega]; exact HMM.out _ (by omega))
    exact ⟨rfl, i, by rw [← HN.out]; exact hi1, H2.out, by rw [← HN.out]; exact H3.out, k1, (Mail.Turn.of_below (HBW.out)).trans (HT2.out.trans k2)⟩
end Go.Proofs.Ytndhhpiklaffoaa.Clock
