/-
  Loops over an iterator that keeps cells of its own: what the caller keeps speaks of what was there when the iterator was called.
-/
import Derived.Test.YtlcjiffnmpkndaaTyA
namespace Go.Proofs.Ytlcjiffnmpkndaa.Pl
open Go.RowKit Go.Shelf Base
attribute [local go_sem] Oper.semAt_some
set_option linter.unusedVariables false
set_option linter.unusedSimpArgs false

/-- It speaks of blocks below one alone. -/
def LowFrom {β : Type} (B : Nat) (I : β → World → Prop) : Prop := ∀ s X Y, I s X → Turn (fun k => B ≤ k) X Y → I s Y
theorem LowFrom.own {β : Type} {B : Nat} {I : β → World → Prop} (h : LowFrom B I) : OwnFrom B I := by
  intro s X Y row hs hg hr
  exact h s X Y hs ⟨hg.os, hg.tape, hg.output, hg.size, fun k hk hB => hg.block k hk (fun e => by have := (hr k e.symm).1; omega)⟩
theorem low_up {B B' : Nat} {X Y : World} (h : Turn (fun k => B' ≤ k) X Y) (hB : B ≤ B') : Turn (fun k => B ≤ k) X Y := h.mono fun k hk => by omega
theorem low_below {B : Nat} {X Y : World} (h : Below X.heap.size X Y) : Turn (fun k => B ≤ k) X Y := Turn.of_below h
/-- As SeqP, for callers whose words speak of what was there. -/
def SeqL {α : Type} (F : Fence) (n : Nat) (P : Program) (g : Nat) (lb : Array Value) (encs : α → Array Value) (Kp : Nat → World → World → Prop) (Ip : List α → World → Prop) (S Sp : List α → Prop) (N M : Nat) (w : World) : Prop :=
  ∀ (l : Nat) (J Jx : List α → World → Prop) (W : World), Below w.heap.size w W → LowFrom W.heap.size J → LowFrom W.heap.size Jx → (∀ pre W1, J pre W1 → Ip pre W1) →
    (∀ pre x W1, Sp (pre ++ [x]) → J pre W1 → pre.length < N → W.heap.size + M ≤ W1.heap.size → YieldAt F (n - 1) P l (encs x) W1 fun e W' =>
      (e = .returned (.bool true) ∧ J (pre ++ [x]) W' ∧ Kp W.heap.size W1 W') ∨ (e = .returned (.bool false) ∧ Jx (pre ++ [x]) W' ∧ KeepsFrom W.heap.size W1 W')) →
    J [] W →
    CallsIn F n P g (#[.func (.yield l) #[] #[]] ++ lb) W fun e W' => (∃ v, e = .returned v) ∧ ((∃ xs, S xs ∧ J xs W') ∨ (∃ pre, Sp pre ∧ Jx pre W'))
/-- The law of the loop. -/
theorem range_low {α : Type} {g : Operand} {ps : Array Tmp} {assign body : Code} {Q : Exit → Act → World → Prop} {a : Act} {w : World} {n : Nat} {F : Fence} {P : Program}
    (hro : F.round = none) (h1 : 2 ≤ n) {gf : Nat} {lb : Array Value} (hg : a.eval g = .func (.func gf) #[] lb) (hFg : F.fn gf) (eg : ∀ args w, (callFunc gf args).run P w = .ok (.enter gf args) w)
    {encs : α → Array Value} {Kp : Nat → World → World → Prop} {S Sp : List α → Prop} {N M : Nat} {w0 : World} {Ip : List α → World → Prop} (hseq : SeqL F (n - 1) P gf lb encs Kp Ip S Sp N M w0)
    (hKt : ∀ {A B C : World}, Kp (w.heap.size + 2) A B → Kp (w.heap.size + 2) B C → Kp (w.heap.size + 2) A C)
    (hKb : ∀ (W : World) (o o' : Obj), W.heap[w.heap.size + 1]? = some o → o.isCells = false → Kp (w.heap.size + 2) W (W.putObj (w.heap.size + 1) o'))
    (hb0 : Below w0.heap.size w0 w) (hps : ∀ x, (encs x).size = ps.size)
    (I : List α → World → Prop) (hIp : ∀ pre W, I pre W → Ip pre W) (Ix : Code → List α → World → Prop) (hIl : LowFrom w.heap.size I) (hIxl : ∀ c, LowFrom w.heap.size (Ix c)) (h0 : I [] w) (Ax : α → Act → World → Prop) (hAx : ∀ x a', OwnFrom w.heap.size (fun (_ : Unit) W => Ax x a' W))
    (hassign : ∀ (l : Nat) (pre : List α) (x : α) (W : World) (K : Act → World → Prop), Sp (pre ++ [x]) → w.heap.size + 2 + M ≤ W.heap.size → I pre W → (∀ a' W', KeepsFrom w.heap.size W W' → Kp (w.heap.size + 2) W W' → I pre W' → Ax x a' W' → K a' W') →
      assign.wpIn (F.inRound l) (n - 1 - 1) P (Exit.then K (fun _ _ _ => False)) { tmps := (ps.zip (encs x)).foldl (fun t (p, v) => t.setIfInBounds p v) a.tmps, defers := [] } W)
    (hbody : ∀ (l : Nat) (pre : List α) (x : α) (a' : Act) (W : World), Sp (pre ++ [x]) → I pre W → Ax x a' W → pre.length < N → w.heap.size + 2 + M ≤ W.heap.size → body.wpIn (F.inRound l) (n - 1 - 1) P (ownPostG w.heap.size (Kp (w.heap.size + 2)) I Ix (pre ++ [x]) W) a' W)
    (hdone : ∀ (D : Nat) (xs : List α) (W : World), w.heap.size ≤ D → S xs → I xs W → W.heap[D]? = some (.deferred (some [])) → Q .normal { a with defers := { target := .collected D, args := #[] } :: a.defers } W)
    (hstop : ∀ (D : Nat) (c : Code) (pre : List α) (W : World), w.heap.size ≤ D → Sp pre → Ix c pre W → W.heap[D]? = some (.deferred (some [])) → c.wpIn F n P Q { a with defers := { target := .collected D, args := #[] } :: a.defers } W) :
    (Code.rangeFunc g ps assign body).wpIn F n P Q a w := by
  have hI := hIl.own
  have hIx := fun c => (hIxl c).own
  refine wpIn_rangeFunc fun fn hfn => ?_
  rw [hro]
  obtain ⟨rec, hrec⟩ : ∃ rec : LoopState → Option Code → Loop, rec = fun st pe => { state := st, pending := pe, fn, tmps := a.tmps, params := ps, assign, body, defers := w.heap.size } := ⟨_, rfl⟩
  obtain ⟨D, hD⟩ : ∃ D, D = w.heap.size := ⟨_, rfl⟩
  have aD : ∀ o, ((w.alloc (.deferred (some []))).alloc o).heap[D]? = some (.deferred (some [])) := fun o => by
    rw [hD]; exact (Below.heap_alloc _ _ _ (by simp)).trans (heap_alloc_new w _)
  have aL : ∀ o, ((w.alloc (.deferred (some []))).alloc o).heap[D + 1]? = some o := fun o => by
    have := heap_alloc_new (w.alloc (.deferred (some []))) o
    rw [World.size_alloc] at this
    rw [hD]; exact this
  have aI : ∀ o, I [] ((w.alloc (.deferred (some []))).alloc o) := fun o => hI.alloc _ (hI.alloc _ h0)
  have henter := run_enterLoop_outer (P := P) (w := w) fn a.tmps ps assign body
  obtain ⟨Bk, hBk⟩ : ∃ Bk : Loop → World → Prop, Bk = fun r W => W.heap[D + 1]? = some (.loop r) ∧ W.heap[D]? = some (.deferred (some [])) := ⟨_, rfl⟩
  have bk_own : ∀ r, OwnFrom (D + 2) (fun (_ : List α) W => Bk r W) := fun r s W W' row h hg hr => by
    rw [hBk] at h ⊢
    obtain ⟨h1, h2⟩ := h
    refine ⟨(hg.block _ (lt_of_block h1) (fun e => ?_)).trans h1, (hg.block _ (lt_of_block h2) (fun e => ?_)).trans h2⟩
    · have := (hr _ e.symm).1; omega
    · have := (hr _ e.symm).1; omega
  have bk_low : ∀ {r X Y}, Bk r X → Turn (fun k => D + 2 ≤ k) X Y → Bk r Y := fun {r X Y} h t => by
    rw [hBk] at h ⊢
    exact ⟨(t.block _ (lt_of_block h.1) (by omega)).trans h.1, (t.block _ (lt_of_block h.2) (by omega)).trans h.2⟩
  have bk_put : ∀ {r W} (r'), Bk r W → Bk r' (W.putObj (D + 1) (.loop r')) := fun {r W} r' h => by
    rw [hBk] at h ⊢
    exact ⟨World.putObj_heap_same (lt_of_block h.1), (World.putObj_heap_other (by omega)).trans h.2⟩
  have bk_keep : ∀ {r W W'}, Bk r W → KeepsFrom w.heap.size W W' → Bk r W' := fun {r W W'} h k => by
    rw [hBk] at h ⊢
    exact ⟨k.same _ _ (by omega) h.1 rfl, k.same _ _ (by omega) h.2 rfl⟩
  have bk1 : ∀ {r W}, Bk r W → W.heap[D + 1]? = some (.loop r) := fun h => by rw [hBk] at h; exact h.1
  have bk2 : ∀ {r W}, Bk r W → W.heap[D]? = some (.deferred (some [])) := fun h => by rw [hBk] at h; exact h.2
  obtain ⟨W1, hW1⟩ : ∃ W1, W1 = (w.alloc (.deferred (some []))).alloc (.loop (rec .ready none)) := ⟨_, rfl⟩
  have bk0 : Bk (rec .ready none) W1 := by rw [hBk, hW1]; exact ⟨aL _, aD _⟩
  have hs1 : W1.heap.size = D + 2 := by rw [hW1, World.size_alloc, World.size_alloc, hD]
  have hI1 : I [] W1 := by rw [hW1]; exact aI _
  have hbW : Below w0.heap.size w0 W1 := by
    rw [hW1]
    exact (hb0.alloc hb0.size _).alloc (by rw [World.size_alloc]; have := hb0.size; omega) _
  clear hBk
  have hres : (#[.func (.yield (D + 1)) #[] #[]] ++ lb : Array Value) = #[.func (.yield (D + 1)) #[] #[]] ++ lb := rfl
  refine ⟨D + 1, [{ target := .collected D, args := #[] }], W1, { target := .fn (.func gf) lb, args := #[.func (.yield (D + 1)) #[] #[]] }, W1, gf,
    #[.func (.yield (D + 1)) #[] #[]] ++ lb, W1, ?_, ?_, ?_, ?_, fun _ => by omega, ?_⟩
  · rw [hW1, hrec, hD]; exact henter
  · simp only [resolve, hg]
    simp [go_sem]
  · intro f' hf'
    cases hf'
    exact hFg
  · have := eg (#[.func (.yield (D + 1)) #[] #[]] ++ lb) W1
    simp [invoke, go_sem, this]
  · refine (hseq (D + 1) (fun pre W => I pre W ∧ Bk (rec .ready none) W) (fun pre W => ∃ c, Ix c pre W ∧ Bk (rec .done (some c)) W) W1 hbW
      (by rw [hs1]; exact fun s X Y h hb => ⟨hIl s X Y h.1 (hb.mono fun k hk => by omega), bk_low h.2 hb⟩)
      (by rw [hs1]; rintro s X Y ⟨c, hx, hk⟩ hb; exact ⟨c, hIxl c s X Y hx (hb.mono fun k hk => by omega), bk_low hk hb⟩) (fun pre W h => hIp pre W h.1) ?_ ⟨hI1, bk0⟩).mono ?_
    · rintro pre x W hsp ⟨hit, hbk⟩ hlt hM
      rw [hs1] at hM ⊢
      rw [← hD] at hKt hKb hI hIx hAx hassign hbody
      have bkk : ∀ {r W W'}, Bk r W → KeepsFrom D W W' → Bk r W' := fun h k => bk_keep h (by rw [← hD]; exact k)
      have hy := run_yield (P := P) (args := encs x) (bk1 hbk) (by rw [hrec]; exact hps x)
      rw [hrec] at hy
      refine ⟨fn, _, assign, body, hy, roundIn_of_wpIn hfn (hassign _ pre x W _ hsp hM hit fun a' W' hk' hp' hit' hax' => ?_)⟩
      have hbk' := bkk hbk hk'
      refine ⟨_, run_beginRound (bk1 hbk') (by rw [hrec]), ?_⟩
      have hbk2 := bk_put { rec .ready none with state := .busy } hbk'
      have kb2 := hKt hp' (hKb W' _ (.loop { rec .ready none with state := .busy }) (bk1 hbk') rfl)
      refine wpIn_mono (hbody _ pre x a' _ hsp (hI.putObj _ hit' (by omega) (bk1 hbk') rfl) ((hAx x a').putObj (s := ()) _ hax' (by omega) (bk1 hbk') rfl) hlt (Nat.le_trans hM (Nat.le_trans hk'.size (grownBy_putObj' W' (D + 1) _).size))) ?_
      rintro e a3 W3 hp
      have fin : ∀ c, KeepsFrom D (W'.putObj (D + 1) (.loop { rec .ready none with state := .busy })) W3 → Ix c (pre ++ [x]) W3 →
          ∃ v w', (Instr.endRound (D + 1) (some c)).run P W3 = .ok v w' ∧ ((Ending.returned v = .returned (.bool true) ∧ (I (pre ++ [x]) w' ∧ Bk (rec .ready none) w') ∧ Kp (D + 2) W w') ∨ (Ending.returned v = .returned (.bool false) ∧ (∃ c, Ix c (pre ++ [x]) w' ∧ Bk (rec .done (some c)) w') ∧ KeepsFrom (D + 2) W w')) := by
        intro c hk3 hi3
        have hbk3 := bkk hbk2 hk3
        have hbk4 := bk_put (rec .done (some c)) hbk3
        refine ⟨_, _, run_endRound (P := P) (some c) (bk1 hbk3), .inr ⟨rfl, ⟨c, ?_, ?_⟩, (keepsFrom_up hk' (by omega)).trans ((keepsFrom_put _ (by omega)).trans ((keepsFrom_up hk3 (by omega)).trans (keepsFrom_put _ (by omega))))⟩⟩
        · exact (hIx _).putObj _ hi3 (by omega) (bk1 hbk3) rfl
        · rw [hrec] at hbk4 ⊢; exact hbk4
      cases e with
      | normal =>
        obtain ⟨hk3, hkp, hi3⟩ := hp
        have hbk3 := bkk hbk2 hk3
        have hbk4 := bk_put (rec .ready none) hbk3
        refine ⟨_, _, run_endRound (P := P) none (bk1 hbk3), .inl ⟨rfl, ⟨?_, ?_⟩, hKt (hKt kb2 hkp) (hKb W3 _ _ (bk1 hbk3) rfl)⟩⟩
        · exact hI.putObj _ hi3 (by omega) (bk1 hbk3) rfl
        · rw [hrec] at hbk4 ⊢; exact hbk4
      | exit id => exact fin (.exit id) hp.1 hp.2
      | ret => exact fin .ret hp.1 hp.2
      | goto t => exact fin (.goto t) hp.1 hp.2
      | panic ch => exact hp.elim
      | outgrown => exact hp.elim
    · rintro e W2 ⟨⟨v, rfl⟩, (⟨xs, hS, hi, hbk⟩ | ⟨pre, hS, c', hi, hbk⟩)⟩
      · have hr := run_endLoop (P := P) (bk1 hbk) (by rw [hrec]; simp)
        rw [show (rec .ready none).pending = none from by rw [hrec]] at hr
        exact ⟨none, _, hr, hdone D xs _ (by omega) hS (hI.putObj _ hi (by omega) (bk1 hbk) rfl) ((World.putObj_heap_other (r := D + 1) (by omega)).trans (bk2 hbk))⟩
      · have hr := run_endLoop (P := P) (bk1 hbk) (by rw [hrec]; simp)
        rw [show (rec .done (some c')).pending = some c' from by rw [hrec]] at hr
        exact ⟨some c', _, hr, hstop D c' pre _ (by omega) hS ((hIx _).putObj _ hi (by omega) (bk1 hbk) rfl) ((World.putObj_heap_other (r := D + 1) (by omega)).trans (bk2 hbk))⟩

end Go.Proofs.Ytlcjiffnmpkndaa.Pl
