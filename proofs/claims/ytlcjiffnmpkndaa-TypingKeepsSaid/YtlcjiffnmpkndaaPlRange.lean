/-
  The law of a loop over an iterator, for iterators that range over another one themselves: the caller's invariant abides the turn of any block that is no cells and was laid since the iterator's call began.
-/
import Derived.Test.YtlcjiffnmpkndaaPlAddr
namespace Go.Proofs.Ytlcjiffnmpkndaa.Pl
open Go.RowKit Go.Shelf Base
set_option linter.unusedVariables false

/-- An iterator's contract. Kp is told how great the heap was when the iterator was called. -/
def SeqO {α : Type} (F : Fence) (n : Nat) (P : Program) (g : Nat) (lb : Array Value) (encs : α → Array Value) (Kp : Nat → World → World → Prop) (S Sp : List α → Prop) (N M : Nat) (w : World) : Prop :=
  ∀ (l : Nat) (J Jx : List α → World → Prop) (W : World), Below w.heap.size w W → OwnFrom W.heap.size J → OwnFrom W.heap.size Jx →
    (∀ pre x W1, J pre W1 → pre.length < N → W.heap.size + M ≤ W1.heap.size → YieldAt F (n - 1) P l (encs x) W1 fun e W' =>
      (e = .returned (.bool true) ∧ J (pre ++ [x]) W' ∧ Kp W.heap.size W1 W') ∨ (e = .returned (.bool false) ∧ Jx (pre ++ [x]) W' ∧ KeepsFrom W.heap.size W1 W')) →
    J [] W →
    CallsIn F n P g (#[.func (.yield l) #[] #[]] ++ lb) W fun e W' => (∃ v, e = .returned v) ∧ ((∃ xs, S xs ∧ J xs W') ∨ (∃ pre, Sp pre ∧ Jx pre W'))

theorem ownFrom_up {β : Type} {B B' : Nat} {I : β → World → Prop} (h : OwnFrom B I) (hB : B ≤ B') : OwnFrom B' I :=
  fun s W W' row hs hg hr => h s W W' row hs hg fun r e => ⟨Nat.le_trans hB (hr r e).1, (hr r e).2⟩
theorem abides_of_own {β : Type} {B : Nat} {I : β → World → Prop} (h : OwnFrom B I) : AbidesFrom B I :=
  fun s W W' row hs hg hr => h s W W' row hs hg fun r e => by
    obtain ⟨h1, o, h2, h3⟩ := hr r e
    exact ⟨h1, o, h2, Obj.not_cells_of_walk h3⟩
theorem SeqO.of_stops {α : Type} {F : Fence} {n : Nat} {P : Program} {g : Nat} {lb : Array Value} {encs : α → Array Value} {Kp : World → World → Prop} {S Sp : List α → Prop} {N : Nat} {w : World}
    (h : SeqStopsK F n P g lb encs Kp S Sp N w) (hKs : ∀ {A B : World}, Kp A B → A.heap.size ≤ B.heap.size) : SeqO F n P g lb encs (fun _ => Kp) S Sp N 0 w := by
  intro l J Jx W hW hJ hJx hY h0
  have hJ2 : OwnFrom W.heap.size (fun s X => J s X ∧ W.heap.size ≤ X.heap.size) := fun s A B row hs hg hr => ⟨hJ s A B row hs.1 hg hr, Nat.le_trans hs.2 hg.size⟩
  refine (h l (fun s X => J s X ∧ W.heap.size ≤ X.heap.size) Jx W hW (abides_of_own hJ2) (abides_of_own hJx) (fun pre x W1 h1 h2 => ?_) ⟨h0, Nat.le_refl _⟩).mono ?_
  · exact (hY pre x W1 h1.1 h2 h1.2).mono fun e W' h => h.imp (fun h => ⟨h.1, ⟨h.2.1, Nat.le_trans h1.2 (hKs h.2.2)⟩, h.2.2⟩) (fun h => ⟨h.1, h.2.1⟩)
  · rintro e W' ⟨hv, (⟨xs, hS, hj, _⟩ | h)⟩
    · exact ⟨hv, .inl ⟨xs, hS, hj⟩⟩
    · exact ⟨hv, .inr h⟩

theorem keepsFrom_up {B B' : Nat} {W W' : World} (h : KeepsFrom B W W') (hB : B ≤ B') : KeepsFrom B' W W' := ⟨h.size, fun k o hk ho hc => h.same k o (Nat.le_trans hB hk) ho hc⟩
theorem keepsFrom_put {B k : Nat} {W : World} (o' : Obj) (hk : k < B) : KeepsFrom B W (W.putObj k o') :=
  ⟨(grownBy_putObj' W k o').size, fun j o hj ho _ => ((grownBy_putObj' W k o').block j (lt_of_block ho) (fun e => by cases e; omega)).trans ho⟩
/-- The law of the loop. -/
theorem range_gen {α : Type} {g : Operand} {ps : Array Tmp} {assign body : Code} {Q : Exit → Act → World → Prop} {a : Act} {w : World} {n : Nat} {F : Fence} {P : Program}
    (hro : F.round = none) (h1 : 2 ≤ n) {gf : Nat} {lb : Array Value} (hg : a.eval g = .func (.func gf) #[] lb) (hFg : F.fn gf) (eg : ∀ args w, (callFunc gf args).run P w = .ok (.enter gf args) w)
    {encs : α → Array Value} {Kp : Nat → World → World → Prop} {S Sp : List α → Prop} {N M : Nat} {w0 : World} (hseq : SeqO F (n - 1) P gf lb encs Kp S Sp N M w0)
    (hKt : ∀ {A B C : World}, Kp (w.heap.size + 2) A B → Kp (w.heap.size + 2) B C → Kp (w.heap.size + 2) A C)
    (hKb : ∀ (W : World) (o o' : Obj), W.heap[w.heap.size + 1]? = some o → o.isCells = false → Kp (w.heap.size + 2) W (W.putObj (w.heap.size + 1) o'))
    (hb0 : Below w0.heap.size w0 w) (hps : ∀ x, (encs x).size = ps.size)
    (I : List α → World → Prop) (Ix : Code → List α → World → Prop) (hI : OwnFrom w.heap.size I) (hIx : ∀ c, OwnFrom w.heap.size (Ix c)) (h0 : I [] w) (Ax : α → Act → World → Prop) (hAx : ∀ x a', OwnFrom w.heap.size (fun (_ : Unit) W => Ax x a' W))
    (hassign : ∀ (l : Nat) (pre : List α) (x : α) (W : World) (K : Act → World → Prop), I pre W → (∀ a' W', KeepsFrom w.heap.size W W' → Kp (w.heap.size + 2) W W' → I pre W' → Ax x a' W' → K a' W') →
      assign.wpIn (F.inRound l) (n - 1 - 1) P (Exit.then K (fun _ _ _ => False)) { tmps := (ps.zip (encs x)).foldl (fun t (p, v) => t.setIfInBounds p v) a.tmps, defers := [] } W)
    (hbody : ∀ (l : Nat) (pre : List α) (x : α) (a' : Act) (W : World), I pre W → Ax x a' W → pre.length < N → w.heap.size + 2 + M ≤ W.heap.size → body.wpIn (F.inRound l) (n - 1 - 1) P (ownPostG w.heap.size (Kp (w.heap.size + 2)) I Ix (pre ++ [x]) W) a' W)
    (hdone : ∀ (D : Nat) (xs : List α) (W : World), w.heap.size ≤ D → S xs → I xs W → W.heap[D]? = some (.deferred (some [])) → Q .normal { a with defers := { target := .collected D, args := #[] } :: a.defers } W)
    (hstop : ∀ (D : Nat) (c : Code) (pre : List α) (W : World), w.heap.size ≤ D → Sp pre → Ix c pre W → W.heap[D]? = some (.deferred (some [])) → c.wpIn F n P Q { a with defers := { target := .collected D, args := #[] } :: a.defers } W) :
    (Code.rangeFunc g ps assign body).wpIn F n P Q a w := by
  refine wpIn_rangeFunc fun fn hfn => ?_
  rw [hro]
  obtain ⟨rec, hrec⟩ : ∃ rec : LoopState → Option Code → Loop, rec = fun st pe => { state := st, pending := pe, fn, tmps := a.tmps, params := ps, assign, body, defers := w.heap.size } := ⟨_, rfl⟩
  obtain ⟨D, hD⟩ : ∃ D, D = w.heap.size := ⟨_, rfl⟩
  have aD : ∀ o, ((w.alloc (.deferred (some []))).alloc o).heap[D]? = some (.deferred (some [])) := fun o => by
    rw [hD]; exact (Below.heap_alloc _ _ _ (by simp)).trans (heap_alloc_new w _)
  have aL : ∀ o, ((w.alloc (.deferred (some []))).alloc o).heap[D + 1]? = some o := fun o => by
    have := heap_alloc_new (w.alloc (.deferred (some []))) o
    rw [World.size_alloc] at this
    rw [hD]; exact this
  have aI : ∀ o, I [] ((w.alloc (.deferred (some []))).alloc o) := fun o => hI.alloc _ (hI.alloc _ h0)
  have henter := run_enterLoop_outer (P := P) (w := w) fn a.tmps ps assign body
  obtain ⟨Bk, hBk⟩ : ∃ Bk : Loop → World → Prop, Bk = fun r W => W.heap[D + 1]? = some (.loop r) ∧ W.heap[D]? = some (.deferred (some [])) := ⟨_, rfl⟩
  have bk_own : ∀ r, OwnFrom (D + 2) (fun (_ : List α) W => Bk r W) := fun r s W W' row h hg hr => by
    rw [hBk] at h ⊢
    obtain ⟨h1, h2⟩ := h
    refine ⟨(hg.block _ (lt_of_block h1) (fun e => ?_)).trans h1, (hg.block _ (lt_of_block h2) (fun e => ?_)).trans h2⟩
    · have := (hr _ e.symm).1; omega
    · have := (hr _ e.symm).1; omega
  have bk_put : ∀ {r W} (r'), Bk r W → Bk r' (W.putObj (D + 1) (.loop r')) := fun {r W} r' h => by
    rw [hBk] at h ⊢
    exact ⟨World.putObj_heap_same (lt_of_block h.1), (World.putObj_heap_other (by omega)).trans h.2⟩
  have bk_keep : ∀ {r W W'}, Bk r W → KeepsFrom w.heap.size W W' → Bk r W' := fun {r W W'} h k => by
    rw [hBk] at h ⊢
    exact ⟨k.same _ _ (by omega) h.1 rfl, k.same _ _ (by omega) h.2 rfl⟩
  have bk1 : ∀ {r W}, Bk r W → W.heap[D + 1]? = some (.loop r) := fun h => by rw [hBk] at h; exact h.1
  have bk2 : ∀ {r W}, Bk r W → W.heap[D]? = some (.deferred (some [])) := fun h => by rw [hBk] at h; exact h.2
  obtain ⟨W1, hW1⟩ : ∃ W1, W1 = (w.alloc (.deferred (some []))).alloc (.loop (rec .ready none)) := ⟨_, rfl⟩
  have bk0 : Bk (rec .ready none) W1 := by rw [hBk, hW1]; exact ⟨aL _, aD _⟩
  have hs1 : W1.heap.size = D + 2 := by rw [hW1, World.size_alloc, World.size_alloc, hD]
  have hI1 : I [] W1 := by rw [hW1]; exact aI _
  have hbW : Below w0.heap.size w0 W1 := by
    rw [hW1]
    exact (hb0.alloc hb0.size _).alloc (by rw [World.size_alloc]; have := hb0.size; omega) _
  clear hBk
  have hres : (#[.func (.yield (D + 1)) #[] #[]] ++ lb : Array Value) = #[.func (.yield (D + 1)) #[] #[]] ++ lb := rfl
  refine ⟨D + 1, [{ target := .collected D, args := #[] }], W1, { target := .fn (.func gf) lb, args := #[.func (.yield (D + 1)) #[] #[]] }, W1, gf,
    #[.func (.yield (D + 1)) #[] #[]] ++ lb, W1, ?_, ?_, ?_, ?_, fun _ => by omega, ?_⟩
  · rw [hW1, hrec, hD]; exact henter
  · simp only [resolve, hg]
    simp [go_sem]
  · intro f' hf'
    cases hf'
    exact hFg
  · have := eg (#[.func (.yield (D + 1)) #[] #[]] ++ lb) W1
    simp [invoke, go_sem, this]
  · refine (hseq (D + 1) (fun pre W => I pre W ∧ Bk (rec .ready none) W) (fun pre W => ∃ c, Ix c pre W ∧ Bk (rec .done (some c)) W) W1 hbW
      (by rw [hs1]; exact OwnFrom.and (ownFrom_up hI (by omega)) (bk_own _))
      (by rw [hs1]; rintro s X Y row ⟨c, hx, hb⟩ hg' hr; exact ⟨c, ownFrom_up (hIx c) (by omega) s X Y row hx hg' hr, bk_own _ s X Y row hb hg' hr⟩) ?_ ⟨hI1, bk0⟩).mono ?_
    · rintro pre x W ⟨hit, hbk⟩ hlt hM
      rw [hs1] at hM ⊢
      rw [← hD] at hKt hKb hI hIx hAx hassign hbody
      have bkk : ∀ {r W W'}, Bk r W → KeepsFrom D W W' → Bk r W' := fun h k => bk_keep h (by rw [← hD]; exact k)
      have hy := run_yield (P := P) (args := encs x) (bk1 hbk) (by rw [hrec]; exact hps x)
      rw [hrec] at hy
      refine ⟨fn, _, assign, body, hy, roundIn_of_wpIn hfn (hassign _ pre x W _ hit fun a' W' hk' hp' hit' hax' => ?_)⟩
      have hbk' := bkk hbk hk'
      refine ⟨_, run_beginRound (bk1 hbk') (by rw [hrec]), ?_⟩
      have hbk2 := bk_put { rec .ready none with state := .busy } hbk'
      have kb2 := hKt hp' (hKb W' _ (.loop { rec .ready none with state := .busy }) (bk1 hbk') rfl)
      refine wpIn_mono (hbody _ pre x a' _ (hI.putObj _ hit' (by omega) (bk1 hbk') rfl) ((hAx x a').putObj (s := ()) _ hax' (by omega) (bk1 hbk') rfl) hlt (Nat.le_trans hM (Nat.le_trans hk'.size (grownBy_putObj' W' (D + 1) _).size))) ?_
      rintro e a3 W3 hp
      have fin : ∀ c, KeepsFrom D (W'.putObj (D + 1) (.loop { rec .ready none with state := .busy })) W3 → Ix c (pre ++ [x]) W3 →
          ∃ v w', (Instr.endRound (D + 1) (some c)).run P W3 = .ok v w' ∧ ((Ending.returned v = .returned (.bool true) ∧ (I (pre ++ [x]) w' ∧ Bk (rec .ready none) w') ∧ Kp (D + 2) W w') ∨ (Ending.returned v = .returned (.bool false) ∧ (∃ c, Ix c (pre ++ [x]) w' ∧ Bk (rec .done (some c)) w') ∧ KeepsFrom (D + 2) W w')) := by
        intro c hk3 hi3
        have hbk3 := bkk hbk2 hk3
        have hbk4 := bk_put (rec .done (some c)) hbk3
        refine ⟨_, _, run_endRound (P := P) (some c) (bk1 hbk3), .inr ⟨rfl, ⟨c, ?_, ?_⟩, (keepsFrom_up hk' (by omega)).trans ((keepsFrom_put _ (by omega)).trans ((keepsFrom_up hk3 (by omega)).trans (keepsFrom_put _ (by omega))))⟩⟩
        · exact (hIx _).putObj _ hi3 (by omega) (bk1 hbk3) rfl
        · rw [hrec] at hbk4 ⊢; exact hbk4
      cases e with
      | normal =>
        obtain ⟨hk3, hkp, hi3⟩ := hp
        have hbk3 := bkk hbk2 hk3
        have hbk4 := bk_put (rec .ready none) hbk3
        refine ⟨_, _, run_endRound (P := P) none (bk1 hbk3), .inl ⟨rfl, ⟨?_, ?_⟩, hKt (hKt kb2 hkp) (hKb W3 _ _ (bk1 hbk3) rfl)⟩⟩
        · exact hI.putObj _ hi3 (by omega) (bk1 hbk3) rfl
        · rw [hrec] at hbk4 ⊢; exact hbk4
      | exit id => exact fin (.exit id) hp.1 hp.2
      | ret => exact fin .ret hp.1 hp.2
      | goto t => exact fin (.goto t) hp.1 hp.2
      | panic ch => exact hp.elim
      | outgrown => exact hp.elim
    · rintro e W2 ⟨⟨v, rfl⟩, (⟨xs, hS, hi, hbk⟩ | ⟨pre, hS, c', hi, hbk⟩)⟩
      · have hr := run_endLoop (P := P) (bk1 hbk) (by rw [hrec]; simp)
        rw [show (rec .ready none).pending = none from by rw [hrec]] at hr
        exact ⟨none, _, hr, hdone D xs _ (by omega) hS (hI.putObj _ hi (by omega) (bk1 hbk) rfl) ((World.putObj_heap_other (r := D + 1) (by omega)).trans (bk2 hbk))⟩
      · have hr := run_endLoop (P := P) (bk1 hbk) (by rw [hrec]; simp)
        rw [show (rec .done (some c')).pending = some c' from by rw [hrec]] at hr
        exact ⟨some c', _, hr, hstop D c' pre _ (by omega) hS ((hIx _).putObj _ hi (by omega) (bk1 hbk) rfl) ((World.putObj_heap_other (r := D + 1) (by omega)).trans (bk2 hbk))⟩
end Go.Proofs.Ytlcjiffnmpkndaa.Pl
