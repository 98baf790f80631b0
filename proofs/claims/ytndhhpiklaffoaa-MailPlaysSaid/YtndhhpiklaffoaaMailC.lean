/-
  A loop over all that waits in a queue: the iterator's contract, and the law of the loop.
-/
import Derived.Test.YtndhhpiklaffoaaMailB
import Derived.RangeFuncNested
import Derived.RangeFuncBound
import Derived.RangeFuncCalls
import Derived.RangeFuncLeaves
import Derived.RangeFuncBox
import Derived.Shelf.Abstract
import Derived.Shelf.RegionOpen
import Derived.OwnWalkIn
import Derived.TacticsInMore
import Derived.LoopNIn
import Derived.LoopIn
import Derived.Maps.AppendAt
import Derived.Maps.OwnIn
namespace Go.Proofs.Ytndhhpiklaffoaa.Mail
open Go.RowKit Go.Conc Go.Shelf
attribute [local go_sem] Oper.semAt_some
set_option linter.unusedVariables false

theorem all_any (c : Nat) (w : World) :
    Calls Try.prog 39 #[.pointer (some ⟨c + 1, 0, none⟩)] w fun e w' => e = .returned (.func (.func 49) #[] #[.pointer (some ⟨w.heap.size, 0, none⟩)]) ∧ w' = w.alloc (.cells #[.pointer (some ⟨c + 1, 0, none⟩)] 24 (0, 0)) := by
  go_enter Try.func39, Try.ntmps39
  go_wp2
  go_ret
  exact ⟨rfl, rfl⟩

/-- How many wait in the channel of block c. -/
def qlen (w : World) (c : Nat) : Nat := match w.heap[c]? with | some (.chan _ buf _ _ _ _) => buf.size | _ => 0
theorem QAt.qlen {w : World} {c room : Nat} {xs : List Int} {shut : Bool} (h : QAt w c room xs shut) : qlen w c = xs.length := by
  obtain ⟨s, r, hc⟩ := h.chan
  simp [Mail.qlen, hc, ints_size]

set_option maxRecDepth 100000 in
set_option maxHeartbeats 1000000 in
/-- The iterator gives what waits, one after the other, till none waits or a round says that it is enough. -/
theorem gen_in (m : Nat) (hm : 1 ≤ m) (l c b room : Nat) (xs : List Int) (shut : Bool) (J Jt Jx : Nat → World → Prop)
    (hst : ∀ k W, k ≤ xs.length → J k W → QAt W c room (xs.drop k) shut ∧ W.cell? ⟨b, 0, none⟩ = some (.pointer (some ⟨c + 1, 0, none⟩)))
    (hget : ∀ k W W', k < xs.length → J k W → QAt W' c room (xs.drop (k + 1)) shut → Turn (Of c) W W' → W'.heap.size = W.heap.size → Jt k W')
    (hY : ∀ k x W, k < xs.length → xs[k]? = some x → Jt k W → YieldAt Fence.wide (m - 1) Try.prog l #[.int .i64 x] W fun e W' =>
      (e = .returned (.bool true) ∧ J (k + 1) W') ∨ (e = .returned (.bool false) ∧ Jx (k + 1) W'))
    (W : World) (h0 : J 0 W) :
    CallsIn Fence.wide m Try.prog 49 #[.func (.yield l) #[] #[], .pointer (some ⟨b, 0, none⟩)] W fun e W' => (∃ v, e = .returned v) ∧ (J xs.length W' ∨ ∃ k, k ≤ xs.length ∧ Jx k W') := by
  have HS := Lib.hid hst
  have HG := Lib.hid hget
  have HY := Lib.hid hY
  clear hst hget hY
  refine callsIn_of_wp Try.func49 rfl trivial ?_ rfl
  simp only [Try.ntmps49, List.size_toArray, List.length_cons, List.length_nil, Nat.reduceAdd, Nat.reduceSub, Array.replicate_succ, Array.replicate_zero, List.push_toArray, List.append_toArray, List.nil_append, List.cons_append]
  gi_wp2
  gi_loopw [3] (fun _ wr => ∃ k : Nat, k ≤ xs.length ∧ J k wr) (fun _ wr => qlen wr c)
  case atStart => exact ⟨0, Nat.zero_le _, h0⟩
  case round =>
    obtain ⟨k, hk, hJ⟩ := hrel
    obtain ⟨q, hb⟩ := HS.out k wr hk hJ
    by_cases hkx : k < xs.length
    · have hdrop : xs.drop k = xs[k] :: xs.drop (k + 1) := List.drop_eq_getElem_cons hkx
      have hx : xs[k]? = some xs[k] := by simp [hkx]
      obtain ⟨x, hxx⟩ : ∃ x, x = xs[k] := ⟨_, rfl⟩
      rw [← hxx] at hdrop hx
      have hql := q.qlen
      rw [hdrop] at q
      have HX := Lib.hid hx
      have HQ := Lib.hid hql
      clear hdrop hxx hx hql
      gi_wp2_with (first
        | (refine ⟨trivial, ?_⟩; gi_at_call 23; refine (callsIn_wide.2 (get_cons _ _ _ _ _ _ q)).mono ?_; rintro e w' ⟨rfl, q1, t1, z1⟩; obtain ⟨fn, tmps, assign, body, hy, hR⟩ := HY.out k x w' hkx HX.out (HG.out k wr w' hkx hJ q1 t1 z1)))
      refine hR.mono ?_
      rintro e W3 (⟨rfl, hJ3⟩ | ⟨rfl, hJx3⟩)
      · gi_wp2
        go_roundw
        case rel => exact ⟨k + 1, by omega, hJ3⟩
        case measure =>
          have q3 := (HS.out (k + 1) W3 (by omega) hJ3).1.qlen
          rw [q3, HQ.out, List.length_drop, List.length_drop]
          omega
      · gi_wp2
        refine bodyPost_ret (results_none rfl _ _ _) rfl ?_
        exact ⟨⟨_, rfl⟩, .inr ⟨k + 1, by omega, hJx3⟩⟩
    · obtain rfl : k = xs.length := by omega
      rw [List.drop_length] at q
      gi_wp2_with (refine ⟨trivial, ?_⟩; gi_at_call 23; refine (callsIn_wide.2 (get_nil _ _ _ _ q)).mono ?_; rintro e w' ⟨rfl, rfl⟩)
      refine ⟨(fun f h => by cases h), ?_⟩
      gi_wp2
      refine bodyPost_ret (results_none rfl _ _ _) rfl ?_
      exact ⟨⟨_, rfl⟩, .inl hJ⟩

/-- How the body of a round may be left. -/
def roundLeft (B : Nat) (I : Nat → World → Prop) (Ix : Code → Nat → World → Prop) (k : Nat) (W : World) : Exit → Act → World → Prop
  | .normal, _, W' => KeepsFrom B W W' ∧ I k W'
  | .exit id, _, W' => KeepsFrom B W W' ∧ Ix (.exit id) k W'
  | _, _, _ => False

/-- The law of the loop over all that waits in a queue. -/
theorem range_all {g : Operand} {ps : Array Tmp} {assign body : Code} {Q : Exit → Act → World → Prop} {a : Act} {w : World} {n : Nat} (h1 : 2 ≤ n) (c b room : Nat) (xs : List Int) (shut : Bool)
    (hg : a.eval g = .func (.func 49) #[] #[.pointer (some ⟨b, 0, none⟩)]) (hps : ps.size = 1) (hcw : c + 1 < w.heap.size)
    (I It : Nat → World → Prop) (Ix : Code → Nat → World → Prop) (hI : OwnFrom w.heap.size I) (hIt : OwnFrom w.heap.size It) (hIx : ∀ c, OwnFrom w.heap.size (Ix c)) (h0 : I 0 w)
    (hst : ∀ k W, k ≤ xs.length → I k W → QAt W c room (xs.drop k) shut ∧ W.cell? ⟨b, 0, none⟩ = some (.pointer (some ⟨c + 1, 0, none⟩)))
    (hget : ∀ k W W', k < xs.length → I k W → QAt W' c room (xs.drop (k + 1)) shut → Turn (Of c) W W' → W'.heap.size = W.heap.size → It k W')
    (a₁ : Int → Act)
    (hassign : ∀ (l : Nat) (x : Int) (W : World) (K : Act → World → Prop), K (a₁ x) W →
      assign.wpIn (Fence.wide.inRound l) (n - 1 - 1) Try.prog (Exit.then K (fun _ _ _ => False)) { tmps := (ps.zip #[.int .i64 x]).foldl (fun t (p, v) => t.setIfInBounds p v) a.tmps, defers := [] } W)
    (hbody : ∀ (l k : Nat) (x : Int) (W : World), k < xs.length → xs[k]? = some x → It k W → body.wpIn (Fence.wide.inRound l) (n - 1 - 1) Try.prog (roundLeft w.heap.size I Ix (k + 1) W) (a₁ x) W)
    (hdone : ∀ (D : Nat) (W : World), w.heap.size ≤ D → I xs.length W → W.heap[D]? = some (.deferred (some [])) → Q .normal { a with defers := { target := .collected D, args := #[] } :: a.defers } W)
    (hstop : ∀ (D : Nat) (c : Code) (k : Nat) (W : World), w.heap.size ≤ D → k ≤ xs.length → Ix c k W → W.heap[D]? = some (.deferred (some [])) → c.wpIn Fence.wide n Try.prog Q { a with defers := { target := .collected D, args := #[] } :: a.defers } W) :
    (Code.rangeFunc g ps assign body).wpIn Fence.wide n Try.prog Q a w := by
  refine wpIn_rangeFunc fun fn hfn => ?_
  obtain ⟨rec, hrec⟩ : ∃ rec : LoopState → Option Code → Loop, rec = fun st pe => { state := st, pending := pe, fn, tmps := a.tmps, params := ps, assign, body, defers := w.heap.size } := ⟨_, rfl⟩
  obtain ⟨D, hD⟩ : ∃ D, D = w.heap.size := ⟨_, rfl⟩
  have aD : ∀ o, ((w.alloc (.deferred (some []))).alloc o).heap[D]? = some (.deferred (some [])) := fun o => by
    rw [hD]; exact (Below.heap_alloc _ _ _ (by simp)).trans (heap_alloc_new w _)
  have aL : ∀ o, ((w.alloc (.deferred (some []))).alloc o).heap[D + 1]? = some o := fun o => by
    have := heap_alloc_new (w.alloc (.deferred (some []))) o
    rw [World.size_alloc] at this
    rw [hD]; exact this
  have aI : ∀ o, I 0 ((w.alloc (.deferred (some []))).alloc o) := fun o => hI.alloc _ (hI.alloc _ h0)
  have henter := run_enterLoop_outer (P := Try.prog) (w := w) fn a.tmps ps assign body
  -- what is known of the loop's own two blocks
  obtain ⟨Bk, hBk⟩ : ∃ Bk : Loop → World → Prop, Bk = fun r W => W.heap[D + 1]? = some (.loop r) ∧ W.heap[D]? = some (.deferred (some [])) := ⟨_, rfl⟩
  have bk_turn : ∀ {r W W'}, Bk r W → Turn (Of c) W W' → Bk r W' := fun {r W W'} h t => by
    rw [hBk] at h ⊢
    obtain ⟨h1, h2⟩ := h
    refine ⟨(t.block _ (lt_of_block h1) ?_).trans h1, (t.block _ (lt_of_block h2) ?_).trans h2⟩ <;> (rintro (e | e) <;> omega)
  have bk_put : ∀ {r W} (r'), Bk r W → Bk r' (W.putObj (D + 1) (.loop r')) := fun {r W} r' h => by
    rw [hBk] at h ⊢
    exact ⟨World.putObj_heap_same (lt_of_block h.1), (World.putObj_heap_other (by omega)).trans h.2⟩
  have bk_keep : ∀ {r W W'}, Bk r W → KeepsFrom w.heap.size W W' → Bk r W' := fun {r W W'} h k => by
    rw [hBk] at h ⊢
    exact ⟨k.same _ _ (by omega) h.1 rfl, k.same _ _ (by omega) h.2 rfl⟩
  have bk1 : ∀ {r W}, Bk r W → W.heap[D + 1]? = some (.loop r) := fun h => by rw [hBk] at h; exact h.1
  have bk2 : ∀ {r W}, Bk r W → W.heap[D]? = some (.deferred (some [])) := fun h => by rw [hBk] at h; exact h.2
  have bk0 : Bk (rec .ready none) ((w.alloc (.deferred (some []))).alloc (.loop (rec .ready none))) := by rw [hBk]; exact ⟨aL _, aD _⟩
  clear hBk
  refine ⟨D + 1, [{ target := .collected D, args := #[] }], (w.alloc (.deferred (some []))).alloc (.loop (rec .ready none)), { target := .fn (.func 49) #[.pointer (some ⟨b, 0, none⟩)], args := #[.func (.yield (D + 1)) #[] #[]] }, (w.alloc (.deferred (some []))).alloc (.loop (rec .ready none)), 49,
    #[.func (.yield (D + 1)) #[] #[]] ++ #[.pointer (some ⟨b, 0, none⟩)], (w.alloc (.deferred (some []))).alloc (.loop (rec .ready none)), ?_, ?_, ?_, ?_, fun _ => by omega, ?_⟩
  · rw [hrec, hD]; exact henter
  · simp only [resolve, hg]
    simp [go_sem]
  · intro f' _; exact trivial
  · have := enters_of Try.func49 (by kernel_rfl) rfl #[.func (.yield (D + 1)) #[] #[], .pointer (some ⟨b, 0, none⟩)] ((w.alloc (.deferred (some []))).alloc (.loop (rec .ready none)))
    simp [invoke, go_sem, this]
  · refine (gen_in (n - 1) (by omega) (D + 1) c b room xs shut (fun k W => I k W ∧ Bk (rec .ready none) W) (fun k W => It k W ∧ Bk (rec .ready none) W) (fun k W => ∃ c, Ix c k W ∧ Bk (rec .done (some c)) W)
      (fun k W hk h => hst k W hk h.1) (fun k W W' hk h hq ht hz => ⟨hget k W W' hk h.1 hq ht hz, bk_turn h.2 ht⟩) ?_ _ ⟨aI _, bk0⟩).mono ?_
    · rintro k x W hk hx ⟨hit, hbk⟩
      have hy := run_yield (P := Try.prog) (args := #[.int .i64 x]) (bk1 hbk) (by rw [hrec]; simpa using hps.symm)
      rw [hrec] at hy
      refine ⟨fn, _, assign, body, hy, roundIn_of_wpIn hfn (hassign _ x W _ ⟨_, run_beginRound (bk1 hbk) (by rw [hrec]), ?_⟩)⟩
      have hbk2 := bk_put { rec .ready none with state := .busy } hbk
      refine wpIn_mono (hbody _ k x _ hk hx (hIt.putObj _ hit (by omega) (bk1 hbk) rfl)) ?_
      rintro e a3 W3 hp
      cases e with
      | normal =>
        obtain ⟨hk3, hi3⟩ := hp
        have hbk3 := bk_keep hbk2 hk3
        have hbk4 := bk_put (rec .ready none) hbk3
        refine ⟨_, _, run_endRound (P := Try.prog) none (bk1 hbk3), .inl ⟨rfl, ?_, ?_⟩⟩
        · exact hI.putObj _ hi3 (by omega) (bk1 hbk3) rfl
        · rw [hrec] at hbk4 ⊢; exact hbk4
      | exit id =>
        obtain ⟨hk3, hi3⟩ := hp
        have hbk3 := bk_keep hbk2 hk3
        have hbk4 := bk_put (rec .done (some (.exit id))) hbk3
        refine ⟨_, _, run_endRound (P := Try.prog) (some (.exit id)) (bk1 hbk3), .inr ⟨rfl, .exit id, ?_, ?_⟩⟩
        · exact (hIx _).putObj _ hi3 (by omega) (bk1 hbk3) rfl
        · rw [hrec] at hbk4 ⊢; exact hbk4
      | ret => exact hp.elim
      | goto t => exact hp.elim
      | panic ch => exact hp.elim
      | outgrown => exact hp.elim
    · rintro e W2 ⟨⟨v, rfl⟩, (⟨hi, hbk⟩ | ⟨k, hk, c', hi, hbk⟩)⟩
      · have hr := run_endLoop (P := Try.prog) (bk1 hbk) (by rw [hrec]; simp)
        rw [show (rec .ready none).pending = none from by rw [hrec]] at hr
        exact ⟨none, _, hr, hdone D _ (by omega) (hI.putObj _ hi (by omega) (bk1 hbk) rfl) ((World.putObj_heap_other (r := D + 1) (by omega)).trans (bk2 hbk))⟩
      · have hr := run_endLoop (P := Try.prog) (bk1 hbk) (by rw [hrec]; simp)
        rw [show (rec .done (some c')).pending = some c' from by rw [hrec]] at hr
        exact ⟨some c', _, hr, hstop D c' k _ (by omega) hk ((hIx _).putObj _ hi (by omega) (bk1 hbk) rfl) ((World.putObj_heap_other (r := D + 1) (by omega)).trans (bk2 hbk))⟩

/-- The same, where the assignment lays what was given from one slot into another one. -/
theorem range_all_at {g : Operand} (p d : Nat) {assign body : Code} {Q : Exit → Act → World → Prop} {a : Act} {w : World} {n : Nat} (h1 : 2 ≤ n) (c b room : Nat) (xs : List Int) (shut : Bool)
    (hg : a.eval g = .func (.func 49) #[] #[.pointer (some ⟨b, 0, none⟩)]) (hcw : c + 1 < w.heap.size)
    (I It : Nat → World → Prop) (Ix : Code → Nat → World → Prop) (hI : OwnFrom w.heap.size I) (hIt : OwnFrom w.heap.size It) (hIx : ∀ c, OwnFrom w.heap.size (Ix c)) (h0 : I 0 w)
    (hst : ∀ k W, k ≤ xs.length → I k W → QAt W c room (xs.drop k) shut ∧ W.cell? ⟨b, 0, none⟩ = some (.pointer (some ⟨c + 1, 0, none⟩)))
    (hget : ∀ k W W', k < xs.length → I k W → QAt W' c room (xs.drop (k + 1)) shut → Turn (Of c) W W' → W'.heap.size = W.heap.size → It k W')
    (hassign : ∀ (l : Nat) (x : Int) (W : World) (K : Act → World → Prop), K { tmps := (a.tmps.setIfInBounds p (.int .i64 x)).setIfInBounds d (.int .i64 x), defers := [] } W →
      assign.wpIn (Fence.wide.inRound l) (n - 1 - 1) Try.prog (Exit.then K (fun _ _ _ => False)) { tmps := a.tmps.setIfInBounds p (.int .i64 x), defers := [] } W)
    (hbody : ∀ (l k : Nat) (x : Int) (W : World), k < xs.length → xs[k]? = some x → It k W → body.wpIn (Fence.wide.inRound l) (n - 1 - 1) Try.prog (roundLeft w.heap.size I Ix (k + 1) W) { tmps := (a.tmps.setIfInBounds p (.int .i64 x)).setIfInBounds d (.int .i64 x), defers := [] } W)
    (hdone : ∀ (D : Nat) (W : World), w.heap.size ≤ D → I xs.length W → W.heap[D]? = some (.deferred (some [])) → Q .normal { a with defers := { target := .collected D, args := #[] } :: a.defers } W)
    (hstop : ∀ (D : Nat) (c : Code) (k : Nat) (W : World), w.heap.size ≤ D → k ≤ xs.length → Ix c k W → W.heap[D]? = some (.deferred (some [])) → c.wpIn Fence.wide n Try.prog Q { a with defers := { target := .collected D, args := #[] } :: a.defers } W) :
    (Code.rangeFunc g #[p] assign body).wpIn Fence.wide n Try.prog Q a w := by
  refine range_all h1 c b room xs shut hg rfl hcw I It Ix hI hIt hIx h0 hst hget (fun x => { tmps := (a.tmps.setIfInBounds p (.int .i64 x)).setIfInBounds d (.int .i64 x), defers := [] }) ?_ hbody hdone hstop
  intro l x W K hK
  rw [show ((#[p] : Array Tmp).zip #[Value.int .i64 x]).foldl (fun t (p, v) => t.setIfInBounds p v) a.tmps = a.tmps.setIfInBounds p (.int .i64 x) from by simp]
  exact hassign l x W K hK
end Go.Proofs.Ytndhhpiklaffoaa.Mail
