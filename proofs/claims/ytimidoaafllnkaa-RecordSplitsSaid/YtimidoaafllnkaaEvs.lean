/-
  Events of the call's own: a row of events, each of whose bytes lie in a block of their own.
-/
import Derived.Test.YtimidoaafllnkaaIacD
import Derived.Laws.OwnMore
import Derived.Lib.OwnKind
namespace Go.Proofs.Ytimidoaafllnkaa.Iac
open Go.RowKit Base
set_option linter.unusedVariables false

theorem info_event : (Try.prog.info? 26).map (fun i => (i.zero, i.size, i.bytes)) = some (some (.agg #[.int .i64 0, .int .u8 0, .int .u8 0, .slice none 0 0]), 4, 40) := by kernel_rfl
/-- An event and the slice of its bytes. -/
abbrev EvP := Ev × Value
def evC (P : List EvP) : List Value := P.flatMap fun p => [.int .i64 p.1.kind, .int .u8 p.1.code, .int .u8 p.1.option, p.2]
theorem evC_append (A B : List EvP) : evC (A ++ B) = evC A ++ evC B := by simp [evC]
theorem evC_length (P : List EvP) : (evC P).length = P.length * 4 := by
  induction P with
  | nil => rfl
  | cons p R ih => simp [evC, List.flatMap_cons] at ih ⊢; omega
theorem evC_get (P : List EvP) : ∀ (i : Nat) (p : EvP), P[i]? = some p → (evC P)[i * 4]? = some (.int .i64 p.1.kind) ∧ (evC P)[i * 4 + 1]? = some (.int .u8 p.1.code) ∧ (evC P)[i * 4 + 2]? = some (.int .u8 p.1.option) ∧ (evC P)[i * 4 + 3]? = some p.2 := by
  induction P with
  | nil => intro i p h; simp at h
  | cons q R ih =>
    intro i p h
    match i with
    | 0 => simp at h; subst h; simp [evC]
    | i + 1 =>
      have := ih i p (by simpa using h)
      rw [show (i + 1) * 4 = i * 4 + 4 by omega]
      simpa [evC] using this
theorem evC_set (Q : List EvP) (e : Ev) (u u' : Value) : (evC (Q ++ [(e, u)])).set (Q.length * 4 + 3) u' = evC (Q ++ [(e, u')]) := by
  rw [evC_append, evC_append, List.set_append, if_neg (by rw [evC_length]; omega), evC_length]
  simp [evC]
def Apart (p q : EvP) : Prop := ∀ g, p.2.ownBlock = some g → q.2.ownBlock = some g → False
structure EvsOwn (s : Nat) (w : World) (v : Value) (P : List EvP) : Prop where
  row : w.ownsRow s 26 4 v P.length (evC P)
  own : ∀ p ∈ P, OwnBytes s w p.2 p.1.bytes
  sep : P.Pairwise Apart
theorem own_lt {s : Nat} {w : World} {v : Value} {L : List Int} (h : OwnBytes s w v L) : ∀ g, v.ownBlock = some g → s ≤ g ∧ g < w.heap.size := fun g e => World.ownsRow.lt h g e
theorem ev_ne {s s' : Nat} {w : World} {v u : Value} {n : Nat} {xs : List Value} {L : List Int} (h : w.ownsRow s 26 4 v n xs) (k : OwnBytes s' w u L) : ∀ g, v.ownBlock = some g → u.ownBlock = some g → False := by
  intro g e1 e2
  obtain ⟨c, fz, h1⟩ := Lib.ownsRow_kind h g e1
  obtain ⟨c', fz', h2⟩ := Lib.ownsRow_kind k g e2
  rw [h1] at h2
  cases h2
theorem ownsRow_keep {s : Nat} {e : TypeId} {z : Nat} {w w' : World} {v : Value} {n : Nat} {xs : List Value} (h : w.ownsRow s e z v n xs) (u : ∀ g, v.ownBlock = some g → s ≤ g → g < w.heap.size → w'.heap[g]? = w.heap[g]?) : w'.ownsRow s e z v n xs := by
  refine ⟨h.1, ?_⟩
  rcases h.2 with h0 | ⟨g, cap, cur, rfl, hg, hgb, rest⟩
  · exact .inl h0
  · exact .inr ⟨g, cap, cur, rfl, hg, (u g rfl hg (lt_of_block hgb)).trans hgb, rest⟩
section
variable {s : Nat} {w w' : World} {v : Value} {P : List EvP}
theorem EvsOwn.nil (s : Nat) (w : World) : EvsOwn s w (.slice none 0 0) [] := ⟨⟨rfl, .inl ⟨rfl, rfl⟩⟩, by simp, List.Pairwise.nil⟩
theorem EvsOwn.keep (h : EvsOwn s w v P) (u : ∀ g, s ≤ g → g < w.heap.size → w'.heap[g]? = w.heap[g]?) : EvsOwn s w' v P :=
  ⟨ownsRow_keep h.row fun g _ => u g, fun p hp => (h.own p hp).keep u, h.sep⟩
theorem EvsOwn.below (h : EvsOwn s w v P) (u : Below w.heap.size w w') : EvsOwn s w' v P := h.keep fun g _ hl => u.block g hl
theorem EvsOwn.turn {T : Nat → Prop} (h : EvsOwn s w v P) (t : Turn T w w') (hT : ∀ k, T k → k < s) : EvsOwn s w' v P := h.keep fun g hs hl => t.block g hl fun e => absurd (hT g e) (by omega)
theorem EvsOwn.slice (h : EvsOwn s w v P) : (v = .slice none 0 0 ∧ P = []) ∨ ∃ g cap, v = .slice (some ⟨g, 0, none⟩) P.length cap ∧ s ≤ g ∧ g < w.heap.size := by
  rcases h.row.2 with ⟨rfl, h0⟩ | ⟨g, cap, cur, rfl, hg, hgb, _⟩
  · exact .inl ⟨rfl, List.eq_nil_of_length_eq_zero h0⟩
  · exact .inr ⟨g, cap, rfl, hg, lt_of_block hgb⟩
theorem EvsOwn.form (h : EvsOwn s w v P) : ∃ a cap, v = .slice a P.length cap := by
  rcases h.slice with ⟨rfl, rfl⟩ | ⟨g, cap, rfl, _⟩
  · exact ⟨none, 0, rfl⟩
  · exact ⟨_, _, rfl⟩
/-- What is read at a place. -/
theorem EvsOwn.get (h : EvsOwn s w v P) {i : Nat} {p : EvP} (hi : P[i]? = some p) : ∃ g cap, v = .slice (some ⟨g, 0, none⟩) P.length cap ∧ s ≤ g ∧ g < w.heap.size ∧ w.cell? ⟨g, i * 4, none⟩ = some (.int .i64 p.1.kind) ∧ w.cell? ⟨g, i * 4 + 1, none⟩ = some (.int .u8 p.1.code) ∧ w.cell? ⟨g, i * 4 + 2, none⟩ = some (.int .u8 p.1.option) ∧ w.cell? ⟨g, i * 4 + 3, none⟩ = some p.2 ∧ ∀ j, w.frozen? ⟨g, j, none⟩ = false := by
  rcases h.slice with ⟨rfl, rfl⟩ | ⟨g, cap, rfl, hs, hl⟩
  · simp at hi
  · obtain ⟨a0, a1, a2, a3⟩ := evC_get P i p hi
    obtain ⟨hlt, _⟩ := List.getElem?_eq_some_iff.1 hi
    have hr := h.row
    refine ⟨g, cap, rfl, hs, hl, ?_, ?_, ?_, ?_, fun j => hr.frozenAt j⟩
    · rw [hr.cellAt _ (by omega)]; exact a0
    · rw [hr.cellAt _ (by omega)]; exact a1
    · rw [hr.cellAt _ (by omega)]; exact a2
    · rw [hr.cellAt _ (by omega)]; exact a3
theorem EvsOwn.evsAt (h : EvsOwn s w v P) : EvsAt w v (P.map (·.1)) := by
  rcases h.slice with ⟨rfl, rfl⟩ | ⟨g, cap, rfl, hs, hl⟩
  · exact ⟨none, 0, rfl, fun hne => absurd rfl hne⟩
  · refine ⟨_, cap, by simp, fun _ => ⟨g, 0, rfl, hl, fun i e hi => ?_⟩⟩
    rw [List.getElem?_map] at hi
    obtain ⟨p, hp, rfl⟩ := Option.map_eq_some_iff.1 hi
    obtain ⟨g', cap', e', _, _, c0, c1, c2, c3, _⟩ := h.get hp
    cases e'
    rw [Nat.zero_add]
    exact ⟨p.2, c0, c1, c2, c3, (h.own p (List.mem_of_getElem? hp)).row⟩
/-- An event laid behind: its box lies in a block of its own. -/
theorem EvsOwn.grown {w1 : World} {v' u : Value} {e : Ev} {o : Obj} (h : EvsOwn s w v P) (hu : OwnBytes s w u e.bytes) (hf : ∀ p ∈ P, Apart p (e, u)) (hown : w1.ownsRow s 26 4 v' (P.length + 1) (evC P ++ [.int .i64 e.kind, .int .u8 e.code, .int .u8 e.option, u])) (hg : (w.alloc o).grownBy w1 v.ownBlock) :
    EvsOwn s w1 v' (P ++ [(e, u)]) := by
  have hk : ∀ {q : Value} {L : List Int}, OwnBytes s w q L → OwnBytes s w1 q L := fun {q L} hq => by
    refine ownsRow_keep hq fun g hqg _ hl => ?_
    refine (hg.block g (by rw [World.size_alloc]; omega) fun ee => ev_ne h.row hq g ee.symm hqg).trans (Below.heap_alloc _ _ _ hl)
  refine ⟨?_, ?_, ?_⟩
  · rw [List.length_append, evC_append]; exact hown
  · intro p hp
    rcases List.mem_append.1 hp with hp | hp
    · exact hk (h.own p hp)
    · obtain rfl := List.mem_singleton.1 hp
      exact hk hu
  · rw [List.pairwise_append]
    exact ⟨h.sep, List.pairwise_singleton _ _, fun p hp q hq => by rw [List.mem_singleton.1 hq]; exact hf p hp⟩
theorem Apart.none {p : EvP} {e : Ev} : Apart p (e, .slice none 0 0) := fun g _ h => by simp [Value.ownBlock] at h
/-- What lies behind a place of memory is apart from what was there. -/
theorem EvsOwn.fresh {u : Value} {e : Ev} {k : Nat} (h : EvsOwn s w v P) (hk : w.heap.size ≤ k) (hu : ∀ g, u.ownBlock = some g → k ≤ g) : ∀ p ∈ P, Apart p (e, u) := fun p hp g h1 h2 => by
  have := (own_lt (h.own p hp) g h1).2
  have := hu g h2
  omega
theorem slice_g {g g' n n' c c' : Nat} (h : Value.slice (some ⟨g, 0, none⟩) n c = .slice (some ⟨g', 0, none⟩) n' c') : g = g' := by
  injection h with h1 _ _
  injection h1 with h1
  injection h1
/-- The last event's bytes grown, and laid into its place. -/
theorem EvsOwn.last {w1 : World} {u u' : Value} {e : Ev} {X : List Int} {o : Obj} {Q : List EvP} {g cap : Nat} (h : EvsOwn s w (.slice (some ⟨g, 0, none⟩) (Q.length + 1) cap) (Q ++ [(e, u)])) (hs : s ≤ w.heap.size) (hown : OwnBytes s w1 u' (e.bytes ++ X)) (hg : (w.alloc o).grownBy w1 u.ownBlock) (hl : u'.ownBlock = u.ownBlock ∨ u'.ownBlock = some (w.heap.size + 1)) :
    EvsOwn s (w1.setCell ⟨g, Q.length * 4 + 3, none⟩ u') (.slice (some ⟨g, 0, none⟩) (Q.length + 1) cap) (Q ++ [({ e with bytes := e.bytes ++ X }, u')]) ∧ Turn (fun k => s ≤ k) w (w1.setCell ⟨g, Q.length * 4 + 3, none⟩ u') := by
  have hul := h.own (e, u) (by simp)
  have hgs : s ≤ g := by
    rcases h.slice with ⟨h0, _⟩ | ⟨g', cap', h0, hs', _⟩
    · cases h0
    · rw [slice_g h0]; exact hs'
  have hglt : g < w.heap.size := by
    rcases h.slice with ⟨h0, _⟩ | ⟨g', cap', h0, _, hs'⟩
    · cases h0
    · rw [slice_g h0]; exact hs'
  have hrow0 := h.row
  rw [List.length_append, List.length_singleton] at hrow0
  have hrow1 : w1.ownsRow s 26 4 (.slice (some ⟨g, 0, none⟩) (Q.length + 1) cap) (Q.length + 1) (evC (Q ++ [(e, u)])) :=
    ownsRow_keep hrow0 fun k hk _ hlt => (hg.block k (by rw [World.size_alloc]; omega) fun ee => ev_ne hrow0 hul k hk ee.symm).trans (Below.heap_alloc _ _ _ hlt)
  obtain ⟨hrow2, hg2⟩ := hrow1.stored (Q.length * 4 + 3) u'
  rw [evC_set Q e u u'] at hrow2
  have hne : ∀ {q : Value} {L : List Int}, OwnBytes s w1 q L → q.ownBlock ≠ some g := fun {q L} hq e' => ev_ne hrow1 hq g rfl e'
  have hkeepQ : ∀ p ∈ Q, OwnBytes s w1 p.2 p.1.bytes := fun p hp => by
    refine ownsRow_keep (h.own p (by simp [hp])) fun k hk _ hlt => ?_
    refine (hg.block k (by rw [World.size_alloc]; omega) fun ee => ?_).trans (Below.heap_alloc _ _ _ hlt)
    exact (List.pairwise_append.1 h.sep).2.2 p hp (e, u) (by simp) k hk ee.symm
  have hset : ∀ {q : Value} {L : List Int}, OwnBytes s w1 q L → OwnBytes s (w1.setCell ⟨g, Q.length * 4 + 3, none⟩ u') q L := fun {q L} hq =>
    ownsRow_keep hq fun k hk _ _ => Below.heap_setCell _ _ _ _ (fun ee => hne hq (by rw [hk]; exact congrArg some ee))
  refine ⟨⟨?_, ?_, ?_⟩, ?_⟩
  · rw [List.length_append, List.length_singleton, show evC (Q ++ [({ e with bytes := e.bytes ++ X }, u')]) = evC (Q ++ [(e, u')]) by rw [evC_append, evC_append]; rfl]; exact hrow2
  · intro p hp
    rcases List.mem_append.1 hp with hp | hp
    · exact hset (hkeepQ p hp)
    · obtain rfl := List.mem_singleton.1 hp
      exact hset hown
  · rw [List.pairwise_append]
    refine ⟨(List.pairwise_append.1 h.sep).1, List.pairwise_singleton _ _, fun p hp q hq => ?_⟩
    rw [List.mem_singleton.1 hq]
    intro k hk hk'
    have hpo := own_lt (h.own p (by simp [hp])) k hk
    rcases hl with hl | hl
    · exact (List.pairwise_append.1 h.sep).2.2 p hp (e, u) (by simp) k hk (hl ▸ hk')
    · have : k = w.heap.size + 1 := by
        have hk'' : u'.ownBlock = some k := hk'
        rw [hl] at hk''
        exact (Option.some.inj hk'').symm
      omega
  · have t0 : Turn (fun k => s ≤ k) w w1 := by
      refine ⟨hg.os, hg.tape, hg.output, Nat.le_trans (by rw [World.size_alloc]; omega) hg.size, fun k hk hS => ?_⟩
      refine (hg.block k (by rw [World.size_alloc]; omega) fun ee => ?_).trans (Below.heap_alloc _ _ _ hk)
      exact hS (own_lt hul k ee.symm).1
    exact t0.trans ((turn_set w1 g _ u').mono fun k hk => by rw [show k = g from hk]; exact hgs)
end
end Go.Proofs.Ytimidoaafllnkaa.Iac
