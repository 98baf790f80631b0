/-
  The iterator over the options that are on.
-/
import Derived.Test.YtkolhjglehnigaaOptC
import Derived.RangeFuncNested
import Derived.RangeFuncBound
import Derived.RangeFuncCalls
import Derived.RangeFuncLeaves
import Derived.RangeFuncBox
import Derived.Shelf.Abstract
import Derived.Shelf.RegionOpen
import Derived.OwnWalkIn
import Derived.TacticsInMore
import Derived.LoopNIn
import Derived.LoopIn
import Derived.Maps.AppendAt
import Derived.Maps.OwnIn
namespace Go.Proofs.Ytkolhjglehnigaa.Opt
open Go.RowKit Go.Shelf Base
attribute [local go_sem] Oper.semAt_some
set_option linter.unusedVariables false

/-- The options below n that are on. -/
def onL (S : Nat → Nat) (ours : Bool) (n : Nat) : List Int := ((List.range n).filter fun o => decide (stOf S ours o = 1)).map fun o : Nat => (o : Int)
theorem onL_yes {S : Nat → Nat} {ours : Bool} {n : Nat} (h : stOf S ours n = 1) : onL S ours (n + 1) = onL S ours n ++ [(n : Int)] := by
  simp [onL, List.range_succ, List.filter_append, h]
theorem onL_no {S : Nat → Nat} {ours : Bool} {n : Nat} (h : ¬ stOf S ours n = 1) : onL S ours (n + 1) = onL S ours n := by
  simp [onL, List.range_succ, List.filter_append, h]
theorem onL_le (S : Nat → Nat) (ours : Bool) (n : Nat) : (onL S ours n).length ≤ n := by
  unfold onL
  rw [List.length_map]
  exact Nat.le_trans (List.length_filter_le _ _) (by simp)
theorem onL_prefix (S : Nat → Nat) (ours : Bool) (k n : Nat) (h : k ≤ n) : onL S ours k <+: onL S ours n := by
  induction n with
  | zero => obtain rfl : k = 0 := by omega
            exact List.prefix_rfl
  | succ n ih =>
    by_cases e : k = n + 1
    · subst e; exact List.prefix_rfl
    · have := ih (by omega)
      by_cases hs : stOf S ours n = 1
      · rw [onL_yes hs]; exact this.trans (List.prefix_append _ _)
      · rw [onL_no hs]; exact this

/-- What a round must leave alone: the options, and the iterator's own two blocks. -/
def Keep3 (b bo bu : Nat) (A B : World) : Prop := A.heap.size ≤ B.heap.size ∧ ∀ k, (k = b ∨ k = bo ∨ k = bu) → B.heap[k]? = A.heap[k]?
theorem Keep3.refl (b bo bu : Nat) (A : World) : Keep3 b bo bu A A := ⟨Nat.le_refl _, fun _ _ => rfl⟩
theorem Keep3.trans {b bo bu : Nat} {A B C : World} (h : Keep3 b bo bu A B) (k : Keep3 b bo bu B C) : Keep3 b bo bu A C :=
  ⟨Nat.le_trans h.1 k.1, fun i hi => (k.2 i hi).trans (h.2 i hi)⟩
structure It (b bo bu : Nat) (M : Nat → Bool) (S : Nat → Nat) (ours : Bool) (W : World) : Prop where
  opt : OptAt W b M S
  ptr : W.cell? ⟨bo, 0, none⟩ = some (.pointer (some ⟨b, 0, none⟩))
  our : W.cell? ⟨bu, 0, none⟩ = some (.bool ours)
theorem It.keep {b bo bu : Nat} {M : Nat → Bool} {S : Nat → Nat} {ours : Bool} {A B : World} (h : It b bo bu M S ours A) (k : Keep3 b bo bu A B) : It b bo bu M S ours B :=
  ⟨(k.2 b (by simp)).trans h.opt, (cell_block (k.2 bo (by simp)) 0).trans h.ptr, (cell_block (k.2 bu (by simp)) 0).trans h.our⟩
theorem It.below {b bo bu : Nat} {M : Nat → Bool} {S : Nat → Nat} {ours : Bool} {A B : World} (h : It b bo bu M S ours A) (k : Below A.heap.size A B) : It b bo bu M S ours B :=
  h.keep ⟨k.size, fun i hi => k.block i (by
    rcases hi with rfl | rfl | rfl
    · exact h.opt.lt
    · exact World.block_lt_of_cell? _ _ h.ptr
    · exact World.block_lt_of_cell? _ _ h.our)⟩

set_option maxRecDepth 100000 in
set_option maxHeartbeats 1000000 in
theorem all_in (m : Nat) (hm : 1 ≤ m) (l b bo bu : Nat) (M : Nat → Bool) (S : Nat → Nat) (ours : Bool) (J Jx : List Int → World → Prop)
    (hY : ∀ pre x W, J pre W → pre.length < 256 → YieldAt Fence.wide (m - 1) Try.prog l #[.int .u8 x] W fun e W' =>
      (e = .returned (.bool true) ∧ J (pre ++ [x]) W' ∧ Keep3 b bo bu W W') ∨ (e = .returned (.bool false) ∧ Jx (pre ++ [x]) W'))
    (W : World) (hI : It b bo bu M S ours W) (h0 : J [] W) :
    CallsIn Fence.wide m Try.prog 122 #[.func (.yield l) #[] #[], .pointer (some ⟨bo, 0, none⟩), .pointer (some ⟨bu, 0, none⟩)] W fun e W' => (∃ v, e = .returned v) ∧
      ((∃ ys, ys = onL S ours 256 ∧ J ys W') ∨ (∃ pre, pre <+: onL S ours 256 ∧ Jx pre W')) := by
  have HI := Lib.hid hI
  have HY := Lib.hid hY
  clear hI hY
  refine callsIn_of_wp Try.func122 rfl trivial ?_ rfl
  simp only [Try.ntmps122, List.size_toArray, List.length_cons, List.length_nil, Nat.reduceAdd, Nat.reduceSub, Array.replicate_succ, Array.replicate_zero, List.push_toArray, List.append_toArray, List.nil_append, List.cons_append]
  gi_wp2
  gi_loopw [5] (fun p wr => ∃ k : Nat, k ≤ 256 ∧ p = .int .i64 k ∧ J (onL S ours k) wr ∧ Keep3 b bo bu W wr) (fun p _ => 256 - (intOf p).toNat)
  case atStart => exact ⟨0, by omega, rfl, h0, Keep3.refl _ _ _ _⟩
  case round =>
    obtain ⟨k, hk, rfl, hJ, hK⟩ := hrel
    have hI := HI.out.keep hK
    have c1 := hI.ptr
    have c2 := hI.our
    have HO := Lib.hid hI.opt
    clear hI
    by_cases hkn : k < 256
    · have hwr : IntKind.u8.wrap (k : Int) = k := IntWalk.u8_in _ (by omega)
      by_cases hs : stOf S ours k = 1
      · have HS := Lib.hid hs
        clear hs
        have hlen := onL_le S ours k
        obtain ⟨fn, tmps, assign, body, hy, hR⟩ := HY.out (onL S ours k) k wr hJ (by omega)
        clear hlen
        gi_wp2_with (refine ⟨trivial, ?_⟩; gi_at_call 87; refine (callsIn_wide.2 (on_any ours k hkn HO.out)).mono ?_; rintro e w' ⟨rfl, rfl⟩; rw [decide_eq_true HS.out])
        refine hR.mono ?_
        rintro e W3 (⟨rfl, hJ3, hk3⟩ | ⟨rfl, hJx3⟩)
        · gi_wp2
          go_roundw
          case rel => exact ⟨k + 1, by omega, by go_num, by rw [onL_yes HS.out]; exact hJ3, hK.trans hk3⟩
          case measure => simp [intOf]; omega
        · gi_wp2
          refine bodyPost_ret (results_none rfl _ _ _) rfl ?_
          exact ⟨⟨_, rfl⟩, .inr ⟨_, by rw [← onL_yes HS.out]; exact onL_prefix S ours (k + 1) 256 (by omega), hJx3⟩⟩
      · have HS := Lib.hid hs
        clear hs
        gi_wp2_with (refine ⟨trivial, ?_⟩; gi_at_call 87; refine (callsIn_wide.2 (on_any ours k hkn HO.out)).mono ?_; rintro e w' ⟨rfl, rfl⟩; rw [decide_eq_false HS.out])
        refine ⟨(fun f h => by cases h), ?_⟩
        gi_wp2
        go_roundw
        case rel => exact ⟨k + 1, by omega, by go_num, by rw [onL_no HS.out]; exact hJ, hK⟩
        case measure => simp [intOf]; omega
    · obtain rfl : k = 256 := by omega
      gi_wp2
      go_end0
      exact ⟨⟨_, rfl⟩, .inl ⟨_, rfl, hJ⟩⟩
theorem all_stops (m : Nat) (hm : 1 ≤ m) (b bo bu : Nat) (M : Nat → Bool) (S : Nat → Nat) (ours : Bool) (w : World) (hI : It b bo bu M S ours w) :
    SeqStopsK Fence.wide m Try.prog 122 #[.pointer (some ⟨bo, 0, none⟩), .pointer (some ⟨bu, 0, none⟩)] (fun x : Int => #[Value.int .u8 x]) (Keep3 b bo bu) (fun ys => ys = onL S ours 256) (fun pre => pre <+: onL S ours 256) 256 w := fun l J Jx W hW hJ hJx hY h0 =>
  all_in m hm l b bo bu M S ours J Jx hY W (hI.below hW) h0
theorem oall_any (b : Nat) (ours : Bool) (w : World) :
    Calls Try.prog 86 #[.pointer (some ⟨b, 0, none⟩), .bool ours] w fun e w' => e = .returned (.func (.func 122) #[] #[.pointer (some ⟨w.heap.size, 0, none⟩), .pointer (some ⟨w.heap.size + 1, 0, none⟩)]) ∧ w' = (w.alloc (.cells #[.pointer (some ⟨b, 0, none⟩)] 43 (0, 0))).alloc (.cells #[.bool ours] 4 (0, 0)) := by
  go_enter Try.func86, Try.ntmps86
  go_wp2
  go_ret
  exact ⟨rfl, rfl⟩
end Go.Proofs.Ytkolhjglehnigaa.Opt
