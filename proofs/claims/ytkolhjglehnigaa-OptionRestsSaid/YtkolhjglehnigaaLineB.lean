/-
  What a side says is on its way; the first word comes.
-/
import Derived.Test.YtkolhjglehnigaaLineA
namespace Go.Proofs.Ytkolhjglehnigaa.Que
open Go.RowKit Base Opt
set_option linter.unusedVariables false

/-- A block with a byte, other than the line's, stands. -/
def SendS (l : Nat) (W W' : World) : Prop := ∀ (g o : Nat) (k : Int), g ≠ l → W.cell? ⟨g, o, none⟩ = some (.int .u8 k) → W'.heap[g]? = W.heap[g]?
def ComeS (l b : Nat) (W W' : World) : Prop := ∀ (g o : Nat) (k : Int), g ≠ l → g ≠ b → W.cell? ⟨g, o, none⟩ = some (.int .u8 k) → W'.heap[g]? = W.heap[g]?
theorem comeG {l b : Nat} {W W5 W6 : World} (t : Turn (At l) W W5) (u : Turn (At b) W5 W6) : ComeS l b W W6 := by
  intro g o k h1 h2 hc
  have hlt := World.block_lt_of_cell? W ⟨g, o, none⟩ hc
  have b1 := t.block g hlt h1
  have hc1 := (cell_block b1 o).trans hc
  exact (u.block g (World.block_lt_of_cell? _ ⟨g, o, none⟩ hc1) h2).trans b1
theorem comeC {l b : Nat} {W W6 W7 : World} (h : ComeS l b W W6) (k : SendS l W6 W7) : ComeS l b W W7 := by
  intro g o x h1 h2 hc
  have b1 := h g o x h1 h2 hc
  exact (k g o x h1 ((cell_block b1 o).trans hc)).trans b1
section
variable {w W : World} {l bA bB s n : Nat} {MA MB : Nat → Bool} {SA SB : Nat → Nat} {ab ba : List Wd} {qA qB : Value}
theorem ne_comm {p q : Option Nat} (h : p = none ∨ p ≠ q) : q = none ∨ q ≠ p := by
  cases q with
  | none => exact .inl rfl
  | some b =>
    rcases h with h | h
    · exact .inr (by rw [h]; simp)
    · exact .inr fun e => h e.symm
theorem blk_lt {s : Nat} {w : World} {v : Value} {L : List Wd} (h : WQ s w v L) : ∀ g, blk v = some g → g < w.heap.size := by
  obtain ⟨us, h1, _⟩ := h
  exact fun g e => (h1.block g e).2.1
theorem LN.pushA {W1 W2 W3 : World} {q' : Value} {x : Wd} {n' : Nat} (h : LN w l bA bB s MA MB SA SB ab ba n qA qB W1) (hq : WQ s W2 q' (ba ++ [x])) (hg : W1.grownBy W2 (blk qA)) (hb : blk q' = blk qA ∨ ∃ g, blk q' = some g ∧ W1.heap.size ≤ g)
    (hs : ∀ g, blk qA = some g → s ≤ g) (hu : ∃ us, QRow s W1 qA us) (t : Turn (At l) W2 W3) (hln : W3.heap[l]? = some (.cells #[.pointer (some ⟨bA, 0, none⟩), .pointer (some ⟨bB, 0, none⟩), q', qB, .int .i64 n'] 49 (0, 0))) : LN w l bA bB s MA MB SA SB ab (ba ++ [x]) n' q' qB W3 := by
  obtain ⟨us, hus⟩ := hu
  obtain ⟨h1, h2, h3, h4⟩ := h.grown hg hs
  have hl := h.hl
  have hT : ∀ k, At l k → k < s := fun k hk => by have : k = l := hk; omega
  have hne : blk qB = none ∨ blk qB ≠ blk qA := ne_comm h.ne
  have hnew : blk qB = none ∨ blk qB ≠ blk q' := by
    rcases hb with e | ⟨g, e, hgl⟩
    · rw [e]; exact hne
    · right
      rw [e]
      intro e2
      have := blk_lt h.wb g e2
      omega
  exact ⟨hln, (t.block bA (lt_of_block (h2.trans h.oa)) (fun e => h.nA e.symm)).trans (h2.trans h.oa), (t.block bB (lt_of_block (h3.trans h.ob)) (fun e => h.nB e.symm)).trans (h3.trans h.ob), hq.turn t hT, (h.wb.other hus hne hg).turn t hT, h.la, h.lb, ne_comm hnew, h.hl, h.hA, h.hB, h.nA, h.nB, h.nAB, Nat.le_trans h.sz (Nat.le_trans hg.size t.size), h4.trans (t.at_below h4.size h.lol), h.lol, h.loA, h.loB⟩
theorem LN.pushB {W1 W2 W3 : World} {q' : Value} {x : Wd} {n' : Nat} (h : LN w l bA bB s MA MB SA SB ab ba n qA qB W1) (hq : WQ s W2 q' (ab ++ [x])) (hg : W1.grownBy W2 (blk qB)) (hb : blk q' = blk qB ∨ ∃ g, blk q' = some g ∧ W1.heap.size ≤ g)
    (hs : ∀ g, blk qB = some g → s ≤ g) (hu : ∃ us, QRow s W1 qB us) (t : Turn (At l) W2 W3) (hln : W3.heap[l]? = some (.cells #[.pointer (some ⟨bA, 0, none⟩), .pointer (some ⟨bB, 0, none⟩), qA, q', .int .i64 n'] 49 (0, 0))) : LN w l bA bB s MA MB SA SB (ab ++ [x]) ba n' qA q' W3 := by
  obtain ⟨us, hus⟩ := hu
  obtain ⟨h1, h2, h3, h4⟩ := h.grown hg hs
  have hl := h.hl
  have hT : ∀ k, At l k → k < s := fun k hk => by have : k = l := hk; omega
  have hne : blk qA = none ∨ blk qA ≠ blk qB := h.ne
  have hnew : blk qA = none ∨ blk qA ≠ blk q' := by
    rcases hb with e | ⟨g, e, hgl⟩
    · rw [e]; exact hne
    · right
      rw [e]
      intro e2
      have := blk_lt h.wa g e2
      omega
  exact ⟨hln, (t.block bA (lt_of_block (h2.trans h.oa)) (fun e => h.nA e.symm)).trans (h2.trans h.oa), (t.block bB (lt_of_block (h3.trans h.ob)) (fun e => h.nB e.symm)).trans (h3.trans h.ob), (h.wa.other hus hne hg).turn t hT, hq.turn t hT, h.la, h.lb, hnew, h.hl, h.hA, h.hB, h.nA, h.nB, h.nAB, Nat.le_trans h.sz (Nat.le_trans hg.size t.size), h4.trans (t.at_below h4.size h.lol), h.lol, h.loA, h.loB⟩
set_option maxRecDepth 100000 in
set_option maxHeartbeats 4000000 in
theorem sendB1 (h : LN w l bA bB s MA MB SA SB ab ba n qA qB W) (v : Value) (x : Wd) (hr : RowIn (fun k => s ≤ k) .u8 W v [255, x.1, (x.2 : Int)]) (hn : n ≤ 100000) (hlen : ba.length ≤ 100000) :
    Calls Try.prog 31 #[.pointer (some ⟨l, 0, none⟩), .int .i64 1, v] W fun e W' => e = .returned (.tuple #[]) ∧ ∃ q', LN w l bA bB s MA MB SA SB ab (ba ++ [x]) (n + 1) q' qB W' ∧ SendS l W W' := by
  obtain ⟨a, c, rfl, hrow⟩ := id hr
  obtain ⟨c0, c1, c2, c3, c4, fz⟩ := h.cells
  have H := Lib.hid h
  have HR := Lib.hid hr
  have f2 := fz 2
  have f4 := fz 4
  have hbd : Below W.heap.size W (W.alloc (.cells #[.slice a 3 c] 24)).drew := Below.drew (below_alloc W (.cells #[.slice a 3 c] 24))
  have hcu : (W.alloc (.cells #[.slice a 3 c] 24)).drew.cell? ⟨W.heap.size, 0, none⟩ = some (.slice a 3 c) := by simp [go_sem]
  have HN := Lib.hid (H.out.below hbd)
  have HRN := Lib.hid (HR.out.below hbd)
  obtain ⟨m0, m1, m2, m3, m4, _⟩ := HN.out.cells
  have hw0 : IntKind.i64.wrap 0 = 0 := rfl
  have hw1 : IntKind.i64.wrap 1 = 1 := rfl
  clear h hr hrow fz
  go_enter Try.func31, Try.ntmps31
  go_upto_region 1 with fail
  go_region_law (refine step_word (by rfl) _ _ (by rfl) HN.out.wa HN.out.sz W.heap.size 1 (.slice a 3 c) x (by rfl) (by rfl) hcu HRN.out hlen ?_; intro q' W2 hq2 hg2 hbk hbs hus; obtain ⟨qa, qc, rfl⟩ := hq2.form; obtain ⟨hl2, hA2, hB2, hold2⟩ := HN.out.grown hg2 hbs; have hln2 := hl2.trans HN.out.ln; have k2 : W2.cell? ⟨l, 2, none⟩ = some qA := (by simp [World.cell?, hln2]); have k4 : W2.cell? ⟨l, 4, none⟩ = some (.int .i64 n) := (by simp [World.cell?, hln2]); have g2 : W2.frozen? ⟨l, 2, none⟩ = false := (by simp [World.frozen?, hln2]); have g4 : W2.frozen? ⟨l, 4, none⟩ = false := (by simp [World.frozen?, hln2]))
  all_goals
    go_wp2_with fail
  all_goals
    refine bodyPost_end (results_none rfl _ _ _) rfl ?_
    refine ⟨rfl, _, HN.out.pushA hq2 hg2 hbk hbs hus ((turn_set W2 l 2 _).trans (turn_set _ l 4 _)) ?_, fun g o k hne hc => ?_⟩
    · have := heap_set (heap_set hln2 2 (.slice qa (ba.length + 1) qc)) 4 (.int .i64 ((n : Int) + 1))
      simpa using this
    · have hlt := World.block_lt_of_cell? W ⟨g, o, none⟩ hc
      have b1 := hbd.block g hlt
      have hc1 := (cell_block b1 o).trans hc
      have hlt1 := World.block_lt_of_cell? _ ⟨g, o, none⟩ hc1
      have hgb : some g ≠ blk qA := fun e => by
        obtain ⟨us, hus⟩ := hus
        exact (hus.block g e.symm).2.2 o k hc1
      have b2 := hg2.block g hlt1 hgb
      have hc2 := (cell_block b2 o).trans hc1
      have hlt2 := World.block_lt_of_cell? _ ⟨g, o, none⟩ hc2
      exact (((turn_set W2 l 2 (.slice qa (ba.length + 1) qc)).trans (turn_set _ l 4 (.int .i64 ((n : Int) + 1)))).block g hlt2 hne).trans (b2.trans b1)
theorem sendA1 (h : LN w l bA bB s MA MB SA SB ab ba n qA qB W) (v : Value) (x : Wd) (hr : RowIn (fun k => s ≤ k) .u8 W v [255, x.1, (x.2 : Int)]) (hn : n ≤ 100000) (hlen : ab.length ≤ 100000) :
    Calls Try.prog 31 #[.pointer (some ⟨l, 0, none⟩), .int .i64 0, v] W fun e W' => e = .returned (.tuple #[]) ∧ ∃ q', LN w l bA bB s MA MB SA SB (ab ++ [x]) ba (n + 1) qA q' W' ∧ SendS l W W' := by
  obtain ⟨a, c, rfl, hrow⟩ := id hr
  obtain ⟨c0, c1, c2, c3, c4, fz⟩ := h.cells
  have H := Lib.hid h
  have HR := Lib.hid hr
  have f2 := fz 3
  have f4 := fz 4
  have hbd : Below W.heap.size W (W.alloc (.cells #[.slice a 3 c] 24)).drew := Below.drew (below_alloc W (.cells #[.slice a 3 c] 24))
  have hcu : (W.alloc (.cells #[.slice a 3 c] 24)).drew.cell? ⟨W.heap.size, 0, none⟩ = some (.slice a 3 c) := by simp [go_sem]
  have HN := Lib.hid (H.out.below hbd)
  have HRN := Lib.hid (HR.out.below hbd)
  obtain ⟨m0, m1, m2, m3, m4, _⟩ := HN.out.cells
  have hw0 : IntKind.i64.wrap 0 = 0 := rfl
  have hw1 : IntKind.i64.wrap 1 = 1 := rfl
  clear h hr hrow fz
  go_enter Try.func31, Try.ntmps31
  go_upto_region 1 with fail
  go_region_law (refine step_word (by rfl) _ _ (by rfl) HN.out.wb HN.out.sz W.heap.size 1 (.slice a 3 c) x (by rfl) (by rfl) hcu HRN.out hlen ?_; intro q' W2 hq2 hg2 hbk hbs hus; obtain ⟨qa, qc, rfl⟩ := hq2.form; obtain ⟨hl2, hA2, hB2, hold2⟩ := HN.out.grown hg2 hbs; have hln2 := hl2.trans HN.out.ln; have k2 : W2.cell? ⟨l, 3, none⟩ = some qB := (by simp [World.cell?, hln2]); have k4 : W2.cell? ⟨l, 4, none⟩ = some (.int .i64 n) := (by simp [World.cell?, hln2]); have g2 : W2.frozen? ⟨l, 3, none⟩ = false := (by simp [World.frozen?, hln2]); have g4 : W2.frozen? ⟨l, 4, none⟩ = false := (by simp [World.frozen?, hln2]))
  all_goals
    go_wp2_with fail
  all_goals
    refine bodyPost_end (results_none rfl _ _ _) rfl ?_
    refine ⟨rfl, _, HN.out.pushB hq2 hg2 hbk hbs hus ((turn_set W2 l 3 _).trans (turn_set _ l 4 _)) ?_, fun g o k hne hc => ?_⟩
    · have := heap_set (heap_set hln2 3 (.slice qa (ab.length + 1) qc)) 4 (.int .i64 ((n : Int) + 1))
      simpa using this
    · have hlt := World.block_lt_of_cell? W ⟨g, o, none⟩ hc
      have b1 := hbd.block g hlt
      have hc1 := (cell_block b1 o).trans hc
      have hlt1 := World.block_lt_of_cell? _ ⟨g, o, none⟩ hc1
      have hgb : some g ≠ blk qB := fun e => by
        obtain ⟨us, hus⟩ := hus
        exact (hus.block g e.symm).2.2 o k hc1
      have b2 := hg2.block g hlt1 hgb
      have hc2 := (cell_block b2 o).trans hc1
      have hlt2 := World.block_lt_of_cell? _ ⟨g, o, none⟩ hc2
      exact (((turn_set W2 l 3 (.slice qa (ab.length + 1) qc)).trans (turn_set _ l 4 (.int .i64 ((n : Int) + 1)))).block g hlt2 hne).trans (b2.trans b1)
end
end Go.Proofs.Ytkolhjglehnigaa.Que
