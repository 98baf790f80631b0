/-
  What is on, as a row: the statements' two helpers.
-/
import Derived.Test.YtbliangchllmhaaOptRefC
import Derived.Test.YtbliangchllmhaaSame
namespace Go.Proofs.Ytbliangchllmhaa.Opt
open Go.RowKit Go.Shelf Base
attribute [local go_sem] Oper.semAt_some
set_option linter.unusedVariables false

theorem info_u8 : (Try.prog.info? 5).map (fun i => (i.zero, i.size, i.bytes)) = some (some (.int .u8 0), 1, 1) := by kernel_rfl
/-- The options that the reference has on, below n. -/
def onR (L : List One) (ours : Bool) (n : Nat) : List Int := ((List.range n).filter fun o => decide (stL L ours o = 1)).map fun o : Nat => (o : Int)
theorem onR_yes {L : List One} {ours : Bool} {n : Nat} (h : stL L ours n = 1) : onR L ours (n + 1) = onR L ours n ++ [(n : Int)] := by
  simp [onR, List.range_succ, List.filter_append, h]
theorem onR_no {L : List One} {ours : Bool} {n : Nat} (h : ¬ stL L ours n = 1) : onR L ours (n + 1) = onR L ours n := by
  simp [onR, List.range_succ, List.filter_append, h]
theorem onR_le (L : List One) (ours : Bool) (n : Nat) : (onR L ours n).length ≤ n := by
  unfold onR
  rw [List.length_map]
  exact Nat.le_trans (List.length_filter_le _ _) (by simp)
theorem onR_prefix (L : List One) (ours : Bool) (k n : Nat) (h : k ≤ n) : onR L ours k <+: onR L ours n := by
  induction n with
  | zero => obtain rfl : k = 0 := by omega
            exact List.prefix_rfl
  | succ n ih =>
    by_cases e : k = n + 1
    · subst e; exact List.prefix_rfl
    · have := ih (by omega)
      by_cases hs : stL L ours n = 1
      · rw [onR_yes hs]; exact this.trans (List.prefix_append _ _)
      · rw [onR_no hs]; exact this
/-- The first q of a prefix that has that many, or of all. -/
theorem pre_take {P X : List Int} {q : Nat} (h : P <+: X) (hq : P.length = q) : X.take q = P := by
  rw [← hq]; exact (List.prefix_iff_eq_take.1 h).symm
/-- A row of bytes of the call's own. -/
def ByteRow (base : Nat) (w : World) (v : Value) (L : List Int) : Prop := w.ownsRow base 5 1 v L.length (L.map (Value.int .u8))
theorem ByteRow.slice {base : Nat} {w : World} {v : Value} {L : List Int} (h : ByteRow base w v L) : ∃ a cap, v = .slice a L.length cap := by
  rcases h.2 with ⟨rfl, h0⟩ | ⟨g, cap, cur, rfl, _⟩
  · exact ⟨none, 0, by rw [h0]⟩
  · exact ⟨_, _, rfl⟩
theorem ByteRow.keep {base : Nat} {w w' : World} {v : Value} {L : List Int} (h : ByteRow base w v L) (u : ∀ g, base ≤ g → g < w.heap.size → w'.heap[g]? = w.heap[g]?) : ByteRow base w' v L := by
  refine ⟨h.1, ?_⟩
  rcases h.2 with h0 | ⟨g, cap, cur, rfl, hg, hgb, rest⟩
  · exact .inl h0
  · exact .inr ⟨g, cap, cur, rfl, hg, (u g hg (lt_of_block hgb)).trans hgb, rest⟩
theorem ByteRow.first {base : Nat} {w : World} {v : Value} {L : List Int} (h : ByteRow base w v L) : ∀ r, v.ownBlock = some r → base ≤ r := fun r e => by
  rcases h.2 with ⟨rfl, _⟩ | ⟨g, cap, cur, rfl, hg', _, _⟩
  · cases e
  · obtain rfl : r = g := by simpa [Value.ownBlock, eq_comm] using e
    exact hg'
theorem LonEnd {s k q : Nat} {w wr : World} {p : Value} {L : List One} {ours : Bool} (hs : s = w.heap.size) (hk : k ≤ 256) (hlen : (onR L ours k).length ≤ q) (hr : ByteRow (s + 1) wr p (onR L ours k)) (hc : k = 256 ∨ q ≤ (onR L ours k).length) :
    RowIn (fun k => w.heap.size ≤ k) .u8 wr p ((onR L ours 256).take q) := by
  have e : (onR L ours 256).take q = onR L ours k := by
    rcases hc with rfl | h
    · exact List.take_of_length_le hlen
    · exact pre_take (onR_prefix L ours k 256 hk) (by omega)
  rw [e]
  exact (RowIn.of_owns hr).mono fun b hb => by omega
def LonRel (s : Nat) (v y z : Value) (L : List One) (ours : Bool) (q : Nat) (w : World) (p i : Value) (wr : World) : Prop :=
  ∃ k : Nat, k ≤ 256 ∧ i = .int .i64 k ∧ (onR L ours k).length ≤ q ∧ ByteRow (s + 1) wr p (onR L ours k) ∧ wr.heap[s]? = some (.cells #[v, y, z] 61 (0, 0)) ∧ Below s w wr
set_option maxRecDepth 100000 in
set_option maxHeartbeats 4000000 in
theorem lon_any (base : Nat) (v y z : Value) (L : List One) (ours : Bool) (q : Nat) (hq : 1 ≤ q) (hq2 : q ≤ 256) (w : World) (h : OneRow base w v L) (hl : L.length ≤ 1000) :
    Calls Try.prog 42 #[.agg #[v, y, z], .bool ours, .int .i64 q] w fun e w' => ∃ p, e = .returned p ∧ RowIn (fun k => w.heap.size ≤ k) .u8 w' p ((onR L ours 256).take q) ∧ Below w.heap.size w w' := by
  obtain ⟨i0, hi, hz0, hz1, hz2⟩ := info_parts info_u8
  obtain ⟨s, hs⟩ : ∃ s, s = w.heap.size := ⟨_, rfl⟩
  obtain ⟨W0, hW⟩ : ∃ W0, W0 = (w.alloc (.cells #[v, y, z] 61)).alloc (.cells #[] 5) := ⟨_, rfl⟩
  have hb : Below w.heap.size w W0 := by rw [hW]; exact (below_alloc w _).trans ((below_alloc _ _).mono (by simp))
  have hbox : W0.heap[s]? = some (.cells #[v, y, z] 61 (0, 0)) := by
    rw [hW, Below.heap_alloc _ _ _ (by rw [World.size_alloc, hs]; omega), hs]; exact heap_alloc_new w _
  have hrow : ByteRow (s + 1) W0 (.slice (some ⟨s + 1, 0, none⟩) 0 0) [] := by
    have := heap_alloc_new (w.alloc (.cells #[v, y, z] 61)) (.cells #[] 5)
    rw [World.size_alloc, ← hs, ← hW] at this
    exact ⟨by simp, .inr ⟨s + 1, 0, #[], rfl, Nat.le_refl _, this, by simp, by simp [maxLen], by simp, by simp⟩⟩
  have R0 : LonRel s v y z L ours q w (.slice (some ⟨s + 1, 0, none⟩) 0 0) (.int .i64 ((0 : Nat) : Int)) W0 := ⟨0, by omega, rfl, by simp [onR], hrow, hbox, by rw [hs]; exact hb⟩
  have HR0 := Lib.hid R0
  have HW := Lib.hid hW.symm
  have HS := Lib.hid hs
  have HROW := Lib.hid h
  have HOWN := Lib.hid h.own_lt
  clear hW hb hbox hrow R0 h hs
  go_enter Try.func42, Try.ntmps42
  go_wp2_with fail
  rw [HW.out, ← HS.out]
  go_loopw [7, 8] (fun p i wr => LonRel s v y z L ours q w p i wr) (fun _ i _ => 256 - (intOf i).toNat)
  case atStart => exact HR0.out
  case round =>
    obtain ⟨k, hk, rfl, hlen, hrow, hbox, hold⟩ := hrel
    obtain ⟨pa, pc, rfl⟩ := hrow.slice
    obtain ⟨m, hm⟩ : ∃ m, m = (onR L ours k).length := ⟨_, rfl⟩
    have hone : OneRow base wr v L := HROW.out.keep' fun g hg => hold.block g (by have := HOWN.out g hg; have := HS.out; omega)
    have e0 : wr.cell? ⟨s, 0, none⟩ = some v := by simp [World.cell?, hbox]
    have e1 : wr.cell? ⟨s, 1, none⟩ = some y := by simp [World.cell?, hbox]
    have e2 : wr.cell? ⟨s, 2, none⟩ = some z := by simp [World.cell?, hbox]
    have hsl := lt_of_block hbox
    have HROWK := Lib.hid hrow
    have HM := Lib.hid hm
    have HLEN := Lib.hid hlen
    have HBOX := Lib.hid hbox
    have HOLD := Lib.hid hold
    have HONE := Lib.hid hone
    rw [← hm] at hlen ⊢
    have hrow' : ByteRow (s + 1) wr (.slice pa m pc) (onR L ours k) := by rw [hm]; exact hrow
    have HROWK' := Lib.hid hrow'
    clear hrow hrow' hm hbox hold hone
    by_cases hk256 : k < 256
    · by_cases hmq : m < q
      · have hwr : IntKind.u8.wrap (k : Int) = k := IntWalk.u8_in _ (by omega)
        go_wp2_with fail
        refine (rstate_any base v y z L ours k wr HONE.out hl).mono ?_
        rintro e w2 ⟨rfl, b2⟩
        have hbox2 := (b2.block s hsl).trans HBOX.out
        have hold2 := HOLD.out.trans (b2.mono (by omega))
        have hrow2 := HROWK'.out.keep (w' := w2) fun g _ hl => b2.block g hl
        have hsz2 := b2.size
        by_cases h1 : stL L ours k = 1
        · have hone2 := onR_yes h1
          rw [h1]
          have HON := Lib.hid hone2
          have HBOX2 := Lib.hid hbox2
          have HOLD2 := Lib.hid hold2
          have hown := hrow2
          have hmm : m ≤ 256 := by omega
          have hlenm := HM.out
          unfold ByteRow at hown
          rw [← hlenm] at hown
          clear h1 hone2 hbox2 hold2 hlenm b2 e0 e1 e2 hrow2
          go_wp2_with (at_builtin; refine wpList_append_own _ rfl _ _ 22 rfl (s + 1) 5 i0 (.int .u8 0) 1 1 Try.underlying22 hi hz0 hz1 hz2 rfl (by decide) _ _ _ rfl (hown.alloc _) ⟨w2.heap.size, 0, none⟩ 1 1 [.int .u8 k] rfl rfl (cell_one_new _ _ _) (by simp [Value.oneCell']) (by unfold maxLen; omega) (by omega) (by rw [World.size_alloc]; omega) ?_; intro v' w5 hown' hgrow _; clear hown)
          go_roundw
          case rel =>
            have hne := HROWK'.out.first
            refine ⟨k + 1, by omega, by go_num, by rw [HON.out, List.length_append]; have := HM.out; simp; omega, ?_, ?_, ?_⟩
            · rw [HON.out]
              unfold ByteRow
              rw [List.length_append, List.map_append, ← HM.out]
              exact hown'
            · rw [hgrow.block s (by rw [World.size_alloc]; omega) (fun e => by have := hne s e.symm; omega), Below.heap_alloc _ _ _ (by omega)]
              exact HBOX2.out
            · exact (HOLD2.out.alloc (by omega) _).grown hgrow (by rw [World.size_alloc]; omega) (fun r e => by have := hne r e; omega)
          case measure => simp [intOf]; omega
        · have hone2 := onR_no h1
          have ht : ((stL L ours k : Int) == 1) = false := by simp; omega
          have HON := Lib.hid hone2
          have HBOX2 := Lib.hid hbox2
          have HOLD2 := Lib.hid hold2
          have HROW2 := Lib.hid hrow2
          clear h1 hone2 hbox2 hold2 b2 hrow2 e0 e1 e2
          go_wp2_with fail
          go_roundw
          case rel => exact ⟨k + 1, by omega, by go_num, by rw [HON.out]; exact HLEN.out, by rw [HON.out]; exact HROW2.out, HBOX2.out, HOLD2.out⟩
          case measure => simp [intOf]; omega
      · go_wp2_with fail
        go_ret
        exact ⟨_, rfl, LonEnd HS.out hk HLEN.out HROWK'.out (.inr (by have := HM.out; omega)), by have := HOLD.out; rw [HS.out] at this; exact this⟩
    · go_wp2_with fail
      go_ret
      exact ⟨_, rfl, LonEnd HS.out hk HLEN.out HROWK'.out (.inl (by omega)), by have := HOLD.out; rw [HS.out] at this; exact this⟩
end Go.Proofs.Ytbliangchllmhaa.Opt
