/-
  Iterators that ask the world between their rounds: their contract, and the law of a loop over one; the places that go back from one, and a field's places.
-/
import Derived.Test.YtlcjiffnmpkndaaPlD
namespace Go.Proofs.Ytlcjiffnmpkndaa.Pl
open Go.RowKit Go.Shelf Base
attribute [local go_sem] Oper.semAt_some
set_option linter.unusedVariables false
set_option linter.unusedSimpArgs false

/-- As SeqO, where what the caller keeps tells what the iterator asks (Ip). -/
def SeqP {α : Type} (F : Fence) (n : Nat) (P : Program) (g : Nat) (lb : Array Value) (encs : α → Array Value) (Kp : Nat → World → World → Prop) (Ip : List α → World → Prop) (S Sp : List α → Prop) (N M : Nat) (w : World) : Prop :=
  ∀ (l : Nat) (J Jx : List α → World → Prop) (W : World), Below w.heap.size w W → OwnFrom W.heap.size J → OwnFrom W.heap.size Jx → (∀ pre W1, J pre W1 → Ip pre W1) →
    (∀ pre x W1, Sp (pre ++ [x]) → J pre W1 → pre.length < N → W.heap.size + M ≤ W1.heap.size → YieldAt F (n - 1) P l (encs x) W1 fun e W' =>
      (e = .returned (.bool true) ∧ J (pre ++ [x]) W' ∧ Kp W.heap.size W1 W') ∨ (e = .returned (.bool false) ∧ Jx (pre ++ [x]) W' ∧ KeepsFrom W.heap.size W1 W')) →
    J [] W →
    CallsIn F n P g (#[.func (.yield l) #[] #[]] ++ lb) W fun e W' => (∃ v, e = .returned v) ∧ ((∃ xs, S xs ∧ J xs W') ∨ (∃ pre, Sp pre ∧ Jx pre W'))

/-- The law of the loop. -/
theorem range_ask {α : Type} {g : Operand} {ps : Array Tmp} {assign body : Code} {Q : Exit → Act → World → Prop} {a : Act} {w : World} {n : Nat} {F : Fence} {P : Program}
    (hro : F.round = none) (h1 : 2 ≤ n) {gf : Nat} {lb : Array Value} (hg : a.eval g = .func (.func gf) #[] lb) (hFg : F.fn gf) (eg : ∀ args w, (callFunc gf args).run P w = .ok (.enter gf args) w)
    {encs : α → Array Value} {Kp : Nat → World → World → Prop} {S Sp : List α → Prop} {N M : Nat} {w0 : World} {Ip : List α → World → Prop} (hseq : SeqP F (n - 1) P gf lb encs Kp Ip S Sp N M w0)
    (hKt : ∀ {A B C : World}, Kp (w.heap.size + 2) A B → Kp (w.heap.size + 2) B C → Kp (w.heap.size + 2) A C)
    (hKb : ∀ (W : World) (o o' : Obj), W.heap[w.heap.size + 1]? = some o → o.isCells = false → Kp (w.heap.size + 2) W (W.putObj (w.heap.size + 1) o'))
    (hb0 : Below w0.heap.size w0 w) (hps : ∀ x, (encs x).size = ps.size)
    (I : List α → World → Prop) (hIp : ∀ pre W, I pre W → Ip pre W) (Ix : Code → List α → World → Prop) (hI : OwnFrom w.heap.size I) (hIx : ∀ c, OwnFrom w.heap.size (Ix c)) (h0 : I [] w) (Ax : α → Act → World → Prop) (hAx : ∀ x a', OwnFrom w.heap.size (fun (_ : Unit) W => Ax x a' W))
    (hassign : ∀ (l : Nat) (pre : List α) (x : α) (W : World) (K : Act → World → Prop), Sp (pre ++ [x]) → w.heap.size + 2 + M ≤ W.heap.size → I pre W → (∀ a' W', KeepsFrom w.heap.size W W' → Kp (w.heap.size + 2) W W' → I pre W' → Ax x a' W' → K a' W') →
      assign.wpIn (F.inRound l) (n - 1 - 1) P (Exit.then K (fun _ _ _ => False)) { tmps := (ps.zip (encs x)).foldl (fun t (p, v) => t.setIfInBounds p v) a.tmps, defers := [] } W)
    (hbody : ∀ (l : Nat) (pre : List α) (x : α) (a' : Act) (W : World), Sp (pre ++ [x]) → I pre W → Ax x a' W → pre.length < N → w.heap.size + 2 + M ≤ W.heap.size → body.wpIn (F.inRound l) (n - 1 - 1) P (ownPostG w.heap.size (Kp (w.heap.size + 2)) I Ix (pre ++ [x]) W) a' W)
    (hdone : ∀ (D : Nat) (xs : List α) (W : World), w.heap.size ≤ D → S xs → I xs W → W.heap[D]? = some (.deferred (some [])) → Q .normal { a with defers := { target := .collected D, args := #[] } :: a.defers } W)
    (hstop : ∀ (D : Nat) (c : Code) (pre : List α) (W : World), w.heap.size ≤ D → Sp pre → Ix c pre W → W.heap[D]? = some (.deferred (some [])) → c.wpIn F n P Q { a with defers := { target := .collected D, args := #[] } :: a.defers } W) :
    (Code.rangeFunc g ps assign body).wpIn F n P Q a w := by
  refine wpIn_rangeFunc fun fn hfn => ?_
  rw [hro]
  obtain ⟨rec, hrec⟩ : ∃ rec : LoopState → Option Code → Loop, rec = fun st pe => { state := st, pending := pe, fn, tmps := a.tmps, params := ps, assign, body, defers := w.heap.size } := ⟨_, rfl⟩
  obtain ⟨D, hD⟩ : ∃ D, D = w.heap.size := ⟨_, rfl⟩
  have aD : ∀ o, ((w.alloc (.deferred (some []))).alloc o).heap[D]? = some (.deferred (some [])) := fun o => by
    rw [hD]; exact (Below.heap_alloc _ _ _ (by simp)).trans (heap_alloc_new w _)
  have aL : ∀ o, ((w.alloc (.deferred (some []))).alloc o).heap[D + 1]? = some o := fun o => by
    have := heap_alloc_new (w.alloc (.deferred (some []))) o
    rw [World.size_alloc] at this
    rw [hD]; exact this
  have aI : ∀ o, I [] ((w.alloc (.deferred (some []))).alloc o) := fun o => hI.alloc _ (hI.alloc _ h0)
  have henter := run_enterLoop_outer (P := P) (w := w) fn a.tmps ps assign body
  obtain ⟨Bk, hBk⟩ : ∃ Bk : Loop → World → Prop, Bk = fun r W => W.heap[D + 1]? = some (.loop r) ∧ W.heap[D]? = some (.deferred (some [])) := ⟨_, rfl⟩
  have bk_own : ∀ r, OwnFrom (D + 2) (fun (_ : List α) W => Bk r W) := fun r s W W' row h hg hr => by
    rw [hBk] at h ⊢
    obtain ⟨h1, h2⟩ := h
    refine ⟨(hg.block _ (lt_of_block h1) (fun e => ?_)).trans h1, (hg.block _ (lt_of_block h2) (fun e => ?_)).trans h2⟩
    · have := (hr _ e.symm).1; omega
    · have := (hr _ e.symm).1; omega
  have bk_put : ∀ {r W} (r'), Bk r W → Bk r' (W.putObj (D + 1) (.loop r')) := fun {r W} r' h => by
    rw [hBk] at h ⊢
    exact ⟨World.putObj_heap_same (lt_of_block h.1), (World.putObj_heap_other (by omega)).trans h.2⟩
  have bk_keep : ∀ {r W W'}, Bk r W → KeepsFrom w.heap.size W W' → Bk r W' := fun {r W W'} h k => by
    rw [hBk] at h ⊢
    exact ⟨k.same _ _ (by omega) h.1 rfl, k.same _ _ (by omega) h.2 rfl⟩
  have bk1 : ∀ {r W}, Bk r W → W.heap[D + 1]? = some (.loop r) := fun h => by rw [hBk] at h; exact h.1
  have bk2 : ∀ {r W}, Bk r W → W.heap[D]? = some (.deferred (some [])) := fun h => by rw [hBk] at h; exact h.2
  obtain ⟨W1, hW1⟩ : ∃ W1, W1 = (w.alloc (.deferred (some []))).alloc (.loop (rec .ready none)) := ⟨_, rfl⟩
  have bk0 : Bk (rec .ready none) W1 := by rw [hBk, hW1]; exact ⟨aL _, aD _⟩
  have hs1 : W1.heap.size = D + 2 := by rw [hW1, World.size_alloc, World.size_alloc, hD]
  have hI1 : I [] W1 := by rw [hW1]; exact aI _
  have hbW : Below w0.heap.size w0 W1 := by
    rw [hW1]
    exact (hb0.alloc hb0.size _).alloc (by rw [World.size_alloc]; have := hb0.size; omega) _
  clear hBk
  have hres : (#[.func (.yield (D + 1)) #[] #[]] ++ lb : Array Value) = #[.func (.yield (D + 1)) #[] #[]] ++ lb := rfl
  refine ⟨D + 1, [{ target := .collected D, args := #[] }], W1, { target := .fn (.func gf) lb, args := #[.func (.yield (D + 1)) #[] #[]] }, W1, gf,
    #[.func (.yield (D + 1)) #[] #[]] ++ lb, W1, ?_, ?_, ?_, ?_, fun _ => by omega, ?_⟩
  · rw [hW1, hrec, hD]; exact henter
  · simp only [resolve, hg]
    simp [go_sem]
  · intro f' hf'
    cases hf'
    exact hFg
  · have := eg (#[.func (.yield (D + 1)) #[] #[]] ++ lb) W1
    simp [invoke, go_sem, this]
  · refine (hseq (D + 1) (fun pre W => I pre W ∧ Bk (rec .ready none) W) (fun pre W => ∃ c, Ix c pre W ∧ Bk (rec .done (some c)) W) W1 hbW
      (by rw [hs1]; exact OwnFrom.and (ownFrom_up hI (by omega)) (bk_own _))
      (by rw [hs1]; rintro s X Y row ⟨c, hx, hb⟩ hg' hr; exact ⟨c, ownFrom_up (hIx c) (by omega) s X Y row hx hg' hr, bk_own _ s X Y row hb hg' hr⟩) (fun pre W h => hIp pre W h.1) ?_ ⟨hI1, bk0⟩).mono ?_
    · rintro pre x W hsp ⟨hit, hbk⟩ hlt hM
      rw [hs1] at hM ⊢
      rw [← hD] at hKt hKb hI hIx hAx hassign hbody
      have bkk : ∀ {r W W'}, Bk r W → KeepsFrom D W W' → Bk r W' := fun h k => bk_keep h (by rw [← hD]; exact k)
      have hy := run_yield (P := P) (args := encs x) (bk1 hbk) (by rw [hrec]; exact hps x)
      rw [hrec] at hy
      refine ⟨fn, _, assign, body, hy, roundIn_of_wpIn hfn (hassign _ pre x W _ hsp hM hit fun a' W' hk' hp' hit' hax' => ?_)⟩
      have hbk' := bkk hbk hk'
      refine ⟨_, run_beginRound (bk1 hbk') (by rw [hrec]), ?_⟩
      have hbk2 := bk_put { rec .ready none with state := .busy } hbk'
      have kb2 := hKt hp' (hKb W' _ (.loop { rec .ready none with state := .busy }) (bk1 hbk') rfl)
      refine wpIn_mono (hbody _ pre x a' _ hsp (hI.putObj _ hit' (by omega) (bk1 hbk') rfl) ((hAx x a').putObj (s := ()) _ hax' (by omega) (bk1 hbk') rfl) hlt (Nat.le_trans hM (Nat.le_trans hk'.size (grownBy_putObj' W' (D + 1) _).size))) ?_
      rintro e a3 W3 hp
      have fin : ∀ c, KeepsFrom D (W'.putObj (D + 1) (.loop { rec .ready none with state := .busy })) W3 → Ix c (pre ++ [x]) W3 →
          ∃ v w', (Instr.endRound (D + 1) (some c)).run P W3 = .ok v w' ∧ ((Ending.returned v = .returned (.bool true) ∧ (I (pre ++ [x]) w' ∧ Bk (rec .ready none) w') ∧ Kp (D + 2) W w') ∨ (Ending.returned v = .returned (.bool false) ∧ (∃ c, Ix c (pre ++ [x]) w' ∧ Bk (rec .done (some c)) w') ∧ KeepsFrom (D + 2) W w')) := by
        intro c hk3 hi3
        have hbk3 := bkk hbk2 hk3
        have hbk4 := bk_put (rec .done (some c)) hbk3
        refine ⟨_, _, run_endRound (P := P) (some c) (bk1 hbk3), .inr ⟨rfl, ⟨c, ?_, ?_⟩, (keepsFrom_up hk' (by omega)).trans ((keepsFrom_put _ (by omega)).trans ((keepsFrom_up hk3 (by omega)).trans (keepsFrom_put _ (by omega))))⟩⟩
        · exact (hIx _).putObj _ hi3 (by omega) (bk1 hbk3) rfl
        · rw [hrec] at hbk4 ⊢; exact hbk4
      cases e with
      | normal =>
        obtain ⟨hk3, hkp, hi3⟩ := hp
        have hbk3 := bkk hbk2 hk3
        have hbk4 := bk_put (rec .ready none) hbk3
        refine ⟨_, _, run_endRound (P := P) none (bk1 hbk3), .inl ⟨rfl, ⟨?_, ?_⟩, hKt (hKt kb2 hkp) (hKb W3 _ _ (bk1 hbk3) rfl)⟩⟩
        · exact hI.putObj _ hi3 (by omega) (bk1 hbk3) rfl
        · rw [hrec] at hbk4 ⊢; exact hbk4
      | exit id => exact fin (.exit id) hp.1 hp.2
      | ret => exact fin .ret hp.1 hp.2
      | goto t => exact fin (.goto t) hp.1 hp.2
      | panic ch => exact hp.elim
      | outgrown => exact hp.elim
    · rintro e W2 ⟨⟨v, rfl⟩, (⟨xs, hS, hi, hbk⟩ | ⟨pre, hS, c', hi, hbk⟩)⟩
      · have hr := run_endLoop (P := P) (bk1 hbk) (by rw [hrec]; simp)
        rw [show (rec .ready none).pending = none from by rw [hrec]] at hr
        exact ⟨none, _, hr, hdone D xs _ (by omega) hS (hI.putObj _ hi (by omega) (bk1 hbk) rfl) ((World.putObj_heap_other (r := D + 1) (by omega)).trans (bk2 hbk))⟩
      · have hr := run_endLoop (P := P) (bk1 hbk) (by rw [hrec]; simp)
        rw [show (rec .done (some c')).pending = some c' from by rw [hrec]] at hr
        exact ⟨some c', _, hr, hstop D c' pre _ (by omega) hS ((hIx _).putObj _ hi (by omega) (bk1 hbk) rfl) ((World.putObj_heap_other (r := D + 1) (by omega)).trans (bk2 hbk))⟩

theorem keepsB {N0 : Nat} {A B : World} (h : Below A.heap.size A B) : KeepsFrom N0 A B := ⟨h.size, fun k o _ ho _ => (h.block k (lt_of_block ho)).trans ho⟩
/-! ### A plane of so many cells -/
def PlN (b n : Nat) (W : World) : Prop := ∃ g r c cur L, PlAt W b g r c cur L ∧ L.length = n
theorem PlAt.n {W : World} {b g : Nat} {r c cur : Int} {L : List Cl} (h : PlAt W b g r c cur L) : PlN b L.length W := ⟨g, r, c, cur, L, h, rfl⟩
theorem len_n {W : World} {b n : Nat} (h : PlN b n W) : Calls Try.prog 39 #[.pointer (some ⟨b, 0, none⟩)] W fun e W' => e = .returned (.int .i64 n) ∧ W = W' := by
  obtain ⟨g, r, c, cur, L, h, rfl⟩ := h
  exact len_any h
theorem PlN.most {W : World} {b n : Nat} (h : PlN b n W) : n ≤ 4096 := by obtain ⟨g, r, c, cur, L, h, rfl⟩ := h; exact h.most
theorem PlN.pos {W : World} {b n : Nat} (h : PlN b n W) : 1 ≤ n := by obtain ⟨g, r, c, cur, L, h, rfl⟩ := h; exact h.pos
theorem PlN.below {W W' : World} {b n : Nat} (h : PlN b n W) (t : Below W.heap.size W W') : PlN b n W' := by
  obtain ⟨g, r, c, cur, L, h, rfl⟩ := h; exact (h.below t).n
def inL (n : Nat) (a : Int) : Bool := decide (0 ≤ a ∧ a < n)
theorem fhas_any {W : World} {b n : Nat} (h : PlN b n W) (i : Int) : Calls Try.prog 80 #[.pointer (some ⟨b, 0, none⟩), .int .i64 i] W fun e W' => e = .returned (.bool (inL n i)) ∧ W = W' := by
  unfold inL
  by_cases h1 : 0 ≤ i
  · by_cases h2 : i < n
    · go_enter Try.func80, Try.ntmps80
      go_wp2_with (go_at_call 39; refine (len_n h).mono ?_; rintro e w' ⟨rfl, rfl⟩)
      go_ret
      exact ⟨by simp [h1, h2], rfl⟩
    · go_enter Try.func80, Try.ntmps80
      go_wp2_with (go_at_call 39; refine (len_n h).mono ?_; rintro e w' ⟨rfl, rfl⟩)
      go_ret
      exact ⟨ret_bool (by simp; omega), rfl⟩
  · go_enter Try.func80, Try.ntmps80
    go_wp2
    go_ret
    exact ⟨ret_bool (by simp; omega), rfl⟩
/-- What a round must leave alone: two blocks of the iterator's own. -/
def Keep2 (p q : Nat) (A B : World) : Prop := A.heap.size ≤ B.heap.size ∧ B.heap[p]? = A.heap[p]? ∧ B.heap[q]? = A.heap[q]?
theorem Keep2.refl (p q : Nat) (A : World) : Keep2 p q A A := ⟨Nat.le_refl _, rfl, rfl⟩
theorem Keep2.trans {p q : Nat} {A B C : World} (h : Keep2 p q A B) (k : Keep2 p q B C) : Keep2 p q A C := ⟨Nat.le_trans h.1 k.1, k.2.1.trans h.2.1, k.2.2.trans h.2.2⟩
theorem Keep2.put {p q k : Nat} (W : World) (o' : Obj) (hp : p ≠ k) (hq : q ≠ k) (lp : p < W.heap.size) (lq : q < W.heap.size) : Keep2 p q W (W.putObj k o') :=
  ⟨(grownBy_putObj' W k o').size, (grownBy_putObj' W k o').block p lp (fun e => by cases e; exact hp rfl), (grownBy_putObj' W k o').block q lq (fun e => by cases e; exact hq rfl)⟩
theorem Keep2.turn {S : Nat → Prop} {p q : Nat} {A B : World} (t : Turn S A B) (lp : p < A.heap.size) (lq : q < A.heap.size) (hp : ¬ S p) (hq : ¬ S q) : Keep2 p q A B :=
  ⟨t.size, t.block p lp hp, t.block q lq hq⟩

/-! ### Back from a place -/
/-- The first k places that go back from one. -/
def backK (n : Nat) (a : Int) (k : Nat) : List Int := (List.range k).map fun i : Nat => (a - i) % n
def backL (n : Nat) (a : Int) : List Int := if inL n a then backK n a n else []
theorem backK_succ (n : Nat) (a : Int) (k : Nat) : backK n a (k + 1) = backK n a k ++ [(a - k) % n] := by simp [backK, List.range_succ]
theorem backK_length (n : Nat) (a : Int) (k : Nat) : (backK n a k).length = k := by simp [backK]
theorem backK_prefix (n : Nat) (a : Int) {k m : Nat} (h : k ≤ m) : backK n a k <+: backK n a m := by
  have : backK n a k = (backK n a m).take k := by simp [backK, ← List.map_take, List.take_range, Nat.min_eq_left h]
  rw [this]; exact List.take_prefix _ _
theorem back_mod1 {n : Nat} {a : Int} {i : Nat} (h1 : a < n) (h2 : (i : Int) ≤ a) : (a - i) % n = a - i := Int.emod_eq_of_lt (by omega) (by omega)
theorem back_mod2 {n : Nat} {a x : Int} {i : Nat} (h0 : 0 ≤ x) (h1 : x < n) (h : x = n + a - i) : (a - i) % n = x := by
  have e : a - (i : Int) = x - n := by omega
  rw [e, Int.sub_emod_right]; exact Int.emod_eq_of_lt h0 h1
def BackIt (W : World) (bp bf b : Nat) (a : Int) : Prop := W.heap[bp]? = some (.cells #[.pointer (some ⟨b, 0, none⟩)] 27 (0, 0)) ∧ W.heap[bf]? = some (.cells #[.int .i64 a] 3 (0, 0))
theorem BackIt.keep {W W' : World} {bp bf b : Nat} {a : Int} (h : BackIt W bp bf b a) (k : Keep2 bp bf W W') : BackIt W' bp bf b a := ⟨k.2.1.trans h.1, k.2.2.trans h.2⟩
theorem back_any (w : World) (b : Nat) (a : Int) : Calls Try.prog 109 #[.pointer (some ⟨b, 0, none⟩), .int .i64 a] w fun e W =>
    e = .returned (.func (.func 140) #[] #[.pointer (some ⟨w.heap.size, 0, none⟩), .pointer (some ⟨w.heap.size + 1, 0, none⟩)]) ∧ BackIt W w.heap.size (w.heap.size + 1) b a ∧ Below w.heap.size w W ∧ W.heap.size = w.heap.size + 2 := by
  go_enter Try.func109, Try.ntmps109
  go_wp2
  go_ret
  have e0 := heap_alloc_new w (.cells #[.pointer (some ⟨b, 0, none⟩)] 27)
  have e1 := heap_alloc_new (w.alloc (.cells #[.pointer (some ⟨b, 0, none⟩)] 27)) (.cells #[.int .i64 a] 3)
  simp only [World.size_alloc] at e1
  refine ⟨rfl, ⟨?_, e1⟩, (below_alloc w _).alloc (by simp) _, by simp⟩
  rw [Below.heap_alloc _ _ _ (by simp)]; exact e0
set_option maxRecDepth 100000 in
set_option maxHeartbeats 1000000 in
theorem back_seq (m : Nat) (hm : 1 ≤ m) (bp bf b n : Nat) (a : Int) (w : World) (hb : bp < w.heap.size ∧ bf < w.heap.size) (hI : BackIt w bp bf b a) :
    SeqP Fence.wide m Try.prog 140 #[.pointer (some ⟨bp, 0, none⟩), .pointer (some ⟨bf, 0, none⟩)] (fun x : Int => #[Value.int .i64 x]) (fun _ => Keep2 bp bf) (fun _ => PlN b n) (fun ys => ys = backL n a) (fun pre => pre <+: backL n a) (backL n a).length 0 w := by
  intro l J Jx W hW hJ hJx hJp hY h0
  have hIW : BackIt W bp bf b a := ⟨(hW.block _ hb.1).trans hI.1, (hW.block _ hb.2).trans hI.2⟩
  have hN := hJp _ _ h0
  have n1 := hN.most
  have n0 := hN.pos
  have c1 : W.cell? ⟨bp, 0, none⟩ = some (.pointer (some ⟨b, 0, none⟩)) := by simp [World.cell?, hIW.1]
  have c2 : W.cell? ⟨bf, 0, none⟩ = some (.int .i64 a) := by simp [World.cell?, hIW.2]
  have HI := Lib.hid hIW
  have HN := Lib.hid hN
  have HJ := Lib.hid hJ
  have HJp := Lib.hid hJp
  have hbw : bp < W.heap.size ∧ bf < W.heap.size := ⟨Nat.lt_of_lt_of_le hb.1 hW.size, Nat.lt_of_lt_of_le hb.2 hW.size⟩
  clear hIW hI hN
  refine callsIn_of_wp Try.func140 rfl trivial ?_ rfl
  simp only [Try.ntmps140, List.size_toArray, List.length_cons, List.length_nil, Nat.reduceAdd, Nat.reduceSub, Array.replicate_succ, Array.replicate_zero, List.push_toArray, List.append_toArray, List.nil_append, List.cons_append]
  cases hin : inL n a with
  | false =>
    gi_wp2_with (refine ⟨trivial, ?_⟩; gi_at_call 80; refine (callsIn_wide.2 (fhas_any HN.out a)).mono ?_; rintro e w' ⟨rfl, rfl⟩; rw [hin])
    refine bodyPost_ret (results_none rfl _ _ _) rfl ?_
    exact ⟨⟨_, rfl⟩, .inl ⟨[], by unfold backL; rw [hin]; rfl, h0⟩⟩
  | true =>
    have hin' := of_decide_eq_true hin
    obtain ⟨a0, a1⟩ := hin'
    have hL : backL n a = backK n a n := by unfold backL; rw [if_pos hin]
    rw [hL, backK_length] at hY
    have HL := Lib.hid hL
    have HY := Lib.hid hY
    have HIN := Lib.hid hin
    clear hL hY hin hW
    gi_wp2_with (refine ⟨trivial, ?_⟩; gi_at_call 80; refine (callsIn_wide.2 (fhas_any HN.out a)).mono ?_; rintro e w' ⟨rfl, rfl⟩; rw [HIN.out])
    gi_loopw [4] (fun p wr => ∃ (x : Int) (i : Nat), p = .int .i64 x ∧ Hid (x = a - i) ∧ -1 ≤ x ∧ x ≤ a ∧ J (backK n a i) wr ∧ Keep2 bp bf W wr) (fun p _ => (intOf p + 1).toNat)
    case atStart =>
      exact ⟨a, 0, rfl, Lib.hid (by omega), by omega, by omega, h0, Keep2.refl _ _ _⟩
    case round =>
      obtain ⟨x, i, rfl, hx, x0, x1, hJi, hKi⟩ := hrel
      have HJi := Lib.hid hJi
      have HKi := Lib.hid hKi
      clear hJi hKi
      by_cases hx0 : 0 ≤ x
      · have hlt : (backK n a i).length < n := by rw [backK_length]; have := hx.out; omega
        have hx' : backK n a i ++ [x] = backK n a (i + 1) := by rw [backK_succ, back_mod1 (by omega) (by have := hx.out; omega), hx.out]
        obtain ⟨fn, tmps, assign, body, hy, hR⟩ := HY.out (backK n a i) x wr (by rw [hx']; exact backK_prefix n a (by have := hx.out; omega)) HJi.out hlt (by have := HKi.out.1; omega)
        rw [hx'] at hR
        clear hlt hx'
        gi_wp2
        refine hR.mono ?_
        rintro e W3 (⟨rfl, hJ3, hk3⟩ | ⟨rfl, hJx3, hk3⟩)
        · have HJ3 := Lib.hid hJ3
          have HK3 := Lib.hid (HKi.out.trans hk3)
          clear hJ3 hk3
          gi_wp2
          go_roundw
          case rel => exact ⟨x - 1, i + 1, rfl, Lib.hid (by have := hx.out; omega), by omega, by omega, HJ3.out, HK3.out⟩
          case measure => simp only [intOf]; omega
        · have HJ3 := Lib.hid hJx3
          clear hJx3 hk3
          gi_wp2
          refine bodyPost_ret (results_none rfl _ _ _) rfl ?_
          refine ⟨⟨_, rfl⟩, .inr ⟨_, ?_, HJ3.out⟩⟩
          rw [HL.out]; exact backK_prefix n a (by have := hx.out; omega)
      · have hi : (i : Int) = a + 1 := by have := hx.out; omega
        have HIi := Lib.hid hi
        have HI2 := Lib.hid (HI.out.keep HKi.out)
        have d1 : wr.cell? ⟨bp, 0, none⟩ = some (.pointer (some ⟨b, 0, none⟩)) := by simp [World.cell?, HI2.out.1]
        have d2 : wr.cell? ⟨bf, 0, none⟩ = some (.int .i64 a) := by simp [World.cell?, HI2.out.2]
        have n2 : (n : Int) ≤ 4096 := by omega
        have n3 : (1 : Int) ≤ n := by omega
        clear hi c1 c2
        gi_wp2_with (refine ⟨trivial, ?_⟩; gi_at_call 39; refine (callsIn_wide.2 (len_n (HJp.out _ _ HJi.out))).mono ?_; rintro e w' ⟨rfl, rfl⟩)
        gi_loopw [5] (fun p wr => ∃ (y : Int) (j : Nat), p = .int .i64 y ∧ Hid (y = n + a - j) ∧ a ≤ y ∧ y < n ∧ J (backK n a j) wr ∧ Keep2 bp bf W wr) (fun p _ => (intOf p - a).toNat)
        case atStart =>
          exact ⟨n - 1, i, rfl, Lib.hid (by have := HIi.out; omega), by omega, by omega, HJi.out, HKi.out⟩
        case round =>
          obtain ⟨y, j, rfl, hy, y0, y1, hJj, hKj⟩ := hrel
          have HJj := Lib.hid hJj
          have HKj := Lib.hid hKj
          have HI3 := Lib.hid (HI.out.keep HKj.out)
          have g2 : wr.cell? ⟨bf, 0, none⟩ = some (.int .i64 a) := by simp [World.cell?, HI3.out.2]
          clear hJj hKj d1 d2
          by_cases hy0 : a < y
          · have hlt : (backK n a j).length < n := by rw [backK_length]; have := hy.out; omega
            have hx' : backK n a j ++ [y] = backK n a (j + 1) := by rw [backK_succ, back_mod2 (x := y) (by omega) (by omega) hy.out]
            obtain ⟨fn, tmps, assign, body, hyy, hR⟩ := HY.out (backK n a j) y wr (by rw [hx']; exact backK_prefix n a (by have := hy.out; omega)) HJj.out hlt (by have := HKj.out.1; omega)
            rw [hx'] at hR
            clear hlt hx'
            gi_wp2
            refine hR.mono ?_
            rintro e W3 (⟨rfl, hJ3, hk3⟩ | ⟨rfl, hJx3, hk3⟩)
            · have HJ3 := Lib.hid hJ3
              have HK3 := Lib.hid (HKj.out.trans hk3)
              clear hJ3 hk3
              gi_wp2
              go_roundw
              case rel => exact ⟨y - 1, j + 1, rfl, Lib.hid (by have := hy.out; omega), by omega, by omega, HJ3.out, HK3.out⟩
              case measure => simp only [intOf]; omega
            · have HJ3 := Lib.hid hJx3
              clear hJx3 hk3
              gi_wp2
              refine bodyPost_ret (results_none rfl _ _ _) rfl ?_
              refine ⟨⟨_, rfl⟩, .inr ⟨_, ?_, HJ3.out⟩⟩
              rw [HL.out]; exact backK_prefix n a (by have := hy.out; omega)
          · have hj : j = n := by have := hy.out; omega
            have HJn := Lib.hid (show J (backL n a) wr by rw [HL.out]; exact hj ▸ HJj.out)
            clear hj
            gi_wp2
            go_end0
            exact ⟨⟨_, rfl⟩, .inl HJn.out⟩
end Go.Proofs.Ytlcjiffnmpkndaa.Pl
