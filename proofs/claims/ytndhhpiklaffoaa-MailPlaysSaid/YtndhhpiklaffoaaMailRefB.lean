/-
  The reference's queues: contract of its Put.
-/
import Derived.Test.YtndhhpiklaffoaaMailRefA
import Derived.Test.YtndhhpiklaffoaaOpen
import Derived.Laws.AppendOwnNone
namespace Go.Proofs.Ytndhhpiklaffoaa.Mail
open Go.RowKit
open Clock (heap_set results_row_tmp)
set_option linter.unusedVariables false

def RPost (S : Nat → Prop) (r : Int) (sh : Bool) (w : World) (ys : List Int) (f : Int) (e : Ending) (w' : World) : Prop :=
  ∃ u', e = .returned (.tuple #[.agg #[u', .int .i64 r, .bool sh], .int .i64 f]) ∧ RowFrom S w' u' ys ∧ Below w.heap.size w w'
theorem RowFrom.of_owns {S : Nat → Prop} {base : Nat} {w : World} {u : Value} {xs : List Int} (h : w.ownsRow base 3 1 u xs.length (xs.map (Value.int .i64))) (hS : ∀ b, base ≤ b → S b) : RowFrom S w u xs := by
  have hr := RowOf.of_owns h
  obtain ⟨a0, cap0, hu, hc⟩ := hr
  rcases h.2 with ⟨rfl, h0⟩ | ⟨g, cap, cur, rfl, hg, hgb, h1, h2, h3, h4⟩
  · exact ⟨none, 0, by rw [h0], by omega, by simp [maxLen], fun _ => rfl, fun hne => absurd (List.eq_nil_of_length_eq_zero h0) hne⟩
  · injection hu with ha hl hcap
    subst ha hcap
    refine ⟨_, cap, rfl, h1, h2, fun h => by simp at h, fun hne => ?_⟩
    obtain ⟨b, off, hb, hcell⟩ := hc hne
    injection hb with hb
    injection hb with hb ho
    subst hb ho
    exact ⟨g, 0, rfl, hS g hg, ⟨_, _, hgb⟩, hcell⟩
/-- Two boxes of the call's own. -/
structure BX (s : Nat) (w : World) (t t' : TypeId) (cs ds : Array Value) (W : World) : Prop where
  box : W.heap[s]? = some (.cells cs t (0, 0))
  res : W.heap[s + 1]? = some (.cells ds t' (0, 0))
  old : Below s w W
theorem BX.lt {s : Nat} {w W : World} {t t' : TypeId} {cs ds : Array Value} (h : BX s w t t' cs ds W) : s + 2 ≤ W.heap.size := by have := lt_of_block h.res; omega
theorem BX.below {s : Nat} {w W W' : World} {t t' : TypeId} {cs ds : Array Value} (h : BX s w t t' cs ds W) (u : Below W.heap.size W W') : BX s w t t' cs ds W' :=
  ⟨(u.block s (lt_of_block h.box)).trans h.box, (u.block (s + 1) (lt_of_block h.res)).trans h.res, h.old.trans (u.mono (by have := h.lt; omega))⟩
theorem BX.grown {s n : Nat} {w W W' : World} {t t' : TypeId} {cs ds : Array Value} {u : Value} {xs : List Value} (h : BX s w t t' cs ds W) (hu : W.ownsRow (s + 2) 3 1 u n xs) (hg : W.grownBy W' u.ownBlock) : BX s w t t' cs ds W' := by
  have hl := h.lt
  have e : ∀ k, k < s + 2 → W'.heap[k]? = W.heap[k]? := fun k hk => hg.block k (by omega) (fun e => by have := (Clock.own_ge hu k e.symm).1; omega)
  exact ⟨(e s (by omega)).trans h.box, (e (s + 1) (by omega)).trans h.res, h.old.grown hg (by omega) (fun r e => by have := (Clock.own_ge hu r e).1; omega)⟩
theorem BX.cells {s : Nat} {w W : World} {t t' : TypeId} {cs ds : Array Value} (h : BX s w t t' cs ds W) : (∀ o, W.cell? ⟨s, o, none⟩ = cs[o]?) ∧ (∀ o, W.cell? ⟨s + 1, o, none⟩ = ds[o]?) ∧ (∀ o, W.frozen? ⟨s, o, none⟩ = false) ∧ (∀ o, W.frozen? ⟨s + 1, o, none⟩ = false) :=
  ⟨fun o => by simp [World.cell?, h.box], fun o => by simp [World.cell?, h.res], fun o => by simp [World.frozen?, h.box], fun o => by simp [World.frozen?, h.res]⟩
theorem rput_end {S : Nat → Prop} {s k : Nat} {w w7 : World} {r : Int} {cs : Array Value} {v : Value} {xs : List Int} (hb : ∀ b, s ≤ b → S b) (h : BX s w 29 29 cs #[.slice none 0 0, .int .i64 0, .bool false] w7)
    (own : w7.ownsRow (s + 2) 3 1 v k (xs.map (Value.int .i64))) (hk : k = xs.length) :
    ((((w7.setCell ⟨s, 0, none⟩ v).setCell ⟨s + 1, 0, none⟩ v).setCell ⟨s + 1, 1, none⟩ (.int .i64 r)).setCell ⟨s + 1, 2, none⟩ (.bool false)).heap[s + 1]? = some (.cells #[v, .int .i64 r, .bool false] 29 (0, 0)) ∧
    RowFrom S ((((w7.setCell ⟨s, 0, none⟩ v).setCell ⟨s + 1, 0, none⟩ v).setCell ⟨s + 1, 1, none⟩ (.int .i64 r)).setCell ⟨s + 1, 2, none⟩ (.bool false)) v xs ∧
    Below s w ((((w7.setCell ⟨s, 0, none⟩ v).setCell ⟨s + 1, 0, none⟩ v).setCell ⟨s + 1, 1, none⟩ (.int .i64 r)).setCell ⟨s + 1, 2, none⟩ (.bool false)) := by
  subst hk
  have e0 : (w7.setCell ⟨s, 0, none⟩ v).heap[s + 1]? = some (.cells #[.slice none 0 0, .int .i64 0, .bool false] 29 (0, 0)) := (Below.heap_setCell _ _ _ _ (by show s + 1 ≠ s; omega)).trans h.res
  refine ⟨heap_set (heap_set (heap_set e0 0 v) 1 (.int .i64 r)) 2 (.bool false), ?_, ?_⟩
  · have o1 := Clock.own_setCell (Clock.own_setCell (Clock.own_setCell (Clock.own_setCell own s 0 v (by omega)) (s + 1) 0 v (by omega)) (s + 1) 1 (.int .i64 r) (by omega)) (s + 1) 2 (.bool false) (by omega)
    exact RowFrom.of_owns o1 fun b hb' => hb b (by omega)
  · exact (((h.old.setCell (Nat.le_refl _) _).setCell (by show s ≤ s + 1; omega) _).setCell (by show s ≤ s + 1; omega) _).setCell (by show s ≤ s + 1; omega) _
set_option maxRecDepth 100000 in
set_option maxHeartbeats 1000000 in
theorem rput_shut (S : Nat → Prop) (r x : Int) (xs : List Int) (u : Value) (w : World) (h : RowFrom S w u xs) :
    Calls Try.prog 41 #[.agg #[u, .int .i64 r, .bool true], .int .i64 x] w (RPost S r true w xs 60) := by
  have hH := h
  obtain ⟨a, cap, rfl, hc, hm, _, _⟩ := h
  have hz := (zero_of_info info_rq).1
  obtain ⟨s, hs⟩ : ∃ s, s = w.heap.size := ⟨_, rfl⟩
  obtain ⟨h1, h2, h3⟩ := two_boxes hs 29 29 #[.slice a xs.length cap, .int .i64 r, .bool true] #[.slice a xs.length cap, .int .i64 r, .bool true]
  have HRUN := Lib.hid (load_q h1 rfl)
  have HB := Lib.hid h2
  have HS := Lib.hid hs
  have HH := Lib.hid hH
  clear h1 h2 h3 hs hH
  go_enter Try.func41, Try.ntmps41
  go_wp2_with fail
  rw [← HS.out]
  refine bodyPost_ret (results_row_tmp rfl _ _ (s + 1) _ rfl HRUN.out) rfl ?_
  exact ⟨_, rfl, HH.out.below (by rw [← HS.out]; exact HB.out), by rw [← HS.out]; exact HB.out⟩
set_option maxRecDepth 100000 in
set_option maxHeartbeats 1000000 in
theorem rput_full (S : Nat → Prop) (r x : Int) (xs : List Int) (u : Value) (w : World) (h : RowFrom S w u xs) (hl : r ≤ xs.length) :
    Calls Try.prog 41 #[.agg #[u, .int .i64 r, .bool false], .int .i64 x] w (RPost S r false w xs 6) := by
  have hH := h
  obtain ⟨a, cap, rfl, hc, hm, _, _⟩ := h
  obtain ⟨n, hn⟩ : ∃ n, n = xs.length := ⟨_, rfl⟩
  rw [← hn] at hc hl ⊢
  have hz := (zero_of_info info_rq).1
  obtain ⟨s, hs⟩ : ∃ s, s = w.heap.size := ⟨_, rfl⟩
  obtain ⟨h1, h2, h3⟩ := two_boxes hs 29 29 #[.slice a n cap, .int .i64 r, .bool false] #[.slice a n cap, .int .i64 r, .bool false]
  rw [← hn] at hH
  have HRUN := Lib.hid (load_q h1 rfl)
  have HB := Lib.hid h2
  have HS := Lib.hid hs
  have HH := Lib.hid hH
  clear h1 h2 h3 hs hH hn
  go_enter Try.func41, Try.ntmps41
  go_wp2_with fail
  rw [← HS.out]
  refine bodyPost_ret (results_row_tmp rfl _ _ (s + 1) _ rfl HRUN.out) rfl ?_
  exact ⟨_, rfl, HH.out.below (by rw [← HS.out]; exact HB.out), by rw [← HS.out]; exact HB.out⟩
set_option maxRecDepth 100000 in
set_option maxHeartbeats 2000000 in
theorem rput_room (S : Nat → Prop) (r x : Int) (xs : List Int) (u : Value) (w : World) (h : RowFrom S w u xs) (hl : (xs.length : Int) < r) (hr : r ≤ 1024) (hb : ∀ b, w.heap.size ≤ b → S b) :
    Calls Try.prog 41 #[.agg #[u, .int .i64 r, .bool false], .int .i64 x] w (RPost S r false w (xs ++ [x]) 0) := by
  have hH := h
  obtain ⟨a, cap, rfl, hc, hm, hnone, hcells⟩ := h
  obtain ⟨n, hn⟩ : ∃ n, n = xs.length := ⟨_, rfl⟩
  rw [← hn] at hc hl ⊢
  have hz := (zero_of_info info_rq).1
  obtain ⟨i0, hi, hz0, hz1, hz2⟩ := info_parts info_int
  obtain ⟨s, hs⟩ : ∃ s, s = w.heap.size := ⟨_, rfl⟩
  have HH := Lib.hid hH
  have HN := Lib.hid hn
  have hn2 : n ≤ 1024 := by omega
  obtain ⟨h1, h2, h3⟩ := two_boxes hs 29 29 #[.slice a n cap, .int .i64 r, .bool false] #[.slice none 0 0, .int .i64 0, .bool false]
  have hBX0 : BX s w 29 29 #[.slice a n cap, .int .i64 r, .bool false] #[.slice none 0 0, .int .i64 0, .bool false] ((w.alloc (.cells #[.slice a n cap, .int .i64 r, .bool false] 29)).alloc (.cells #[.slice none 0 0, .int .i64 0, .bool false] 29)) := ⟨h3, h1, h2⟩
  have hBX := hBX0.below ((Below.refl _ _).alloc (Nat.le_refl _) (.cells #[] 3))
  obtain ⟨W3, hW3⟩ : ∃ W3, W3 = ((w.alloc (.cells #[.slice a n cap, .int .i64 r, .bool false] 29)).alloc (.cells #[.slice none 0 0, .int .i64 0, .bool false] 29)).alloc (.cells #[] 3) := ⟨_, rfl⟩
  have hown0 : W3.ownsRow (s + 2) 3 1 (.slice (some ⟨w.heap.size + 1 + 1, 0, none⟩) 0 0) 0 [] := by
    refine ⟨by simp, .inr ⟨w.heap.size + 1 + 1, 0, #[], rfl, by omega, ?_, by simp, by simp [maxLen], rfl, by simp⟩⟩
    have := heap_alloc_new ((w.alloc (.cells #[.slice a n cap, .int .i64 r, .bool false] 29)).alloc (.cells #[.slice none 0 0, .int .i64 0, .bool false] 29)) (.cells #[] 3)
    rw [World.size_alloc, World.size_alloc, ← hW3] at this
    exact this
  rw [← hW3] at hBX
  have hW3s : Hid (W3.heap.size = s + 3) := by rw [hW3]; exact Lib.hid (by simp; omega)
  have HBX := Lib.hid hBX
  have HOWN0 := Lib.hid hown0
  have HW3 := Lib.hid hW3
  subst hs
  clear hH hn h1 h2 h3 hBX0 hBX hW3
  cases a with
  | none =>
    obtain rfl : cap = 0 := hnone rfl
    obtain rfl : n = 0 := by omega
    clear hnone hcells hc hm
    have hxs : xs = [] := List.eq_nil_of_length_eq_zero HN.out.symm
    have hown1 : W3.ownsRow (w.heap.size + 2) 3 1 (.slice (some ⟨w.heap.size + 1 + 1, 0, none⟩) 0 0) 0 (xs.map (Value.int .i64)) := by rw [hxs]; exact HOWN0.out
    have HB5 := HBX
    clear hxs
    obtain ⟨v1, hv1⟩ : ∃ v1 : Value, v1 = .slice (some ⟨w.heap.size + 1 + 1, 0, none⟩) 0 0 := ⟨_, rfl⟩
    have HV1 := Lib.hid hv1
    rw [← hv1] at hown1
    clear hv1
    rw [HW3.out] at hown0
    go_enter Try.func41, Try.ntmps41
    go_wp2_with (first
      | (at_builtin; refine wpList_append_own_none rfl _ _ 27 rfl (w.heap.size + 2) 3 i0 1 Try.underlying27 hi _ _ _ rfl hown0 rfl ?_; rw [← HW3.out, ← HV1.out]; clear hown0)
      | (at_builtin; refine wpList_append_own _ rfl _ _ 27 rfl (w.heap.size + 2) 3 i0 (.int .i64 0) 1 8 Try.underlying27 hi hz0 hz1 hz2 rfl (by decide) _ _ _ rfl (hown1.alloc _) ⟨W3.heap.size, 0, none⟩ 1 1 [.int .i64 x] rfl rfl (by intro j u hu; match j, hu with | 0, hu => simp at hu; subst hu; simp [go_sem, Addr.add]) (by simp [Value.oneCell']) (by unfold maxLen; omega) (by omega) (by have := hW3s.out; simp; omega) ?_; intro v2 w7 hown2 hgrow2 _; have HB7 := Lib.hid ((HB5.out.below ((Below.refl _ W3).alloc (Nat.le_refl _) (.cells #[.int .i64 x] 3))).grown (hown1.alloc _) hgrow2); have HO7 := Lib.hid hown2; obtain ⟨va, vc, rfl⟩ := Clock.own_lit hown2; obtain ⟨c0, c1, f0, f1⟩ := HB7.out.cells; clear hgrow2 hown2 hown1))
    obtain ⟨e1, e2, e3⟩ := rput_end (xs := xs ++ [x]) (r := r) hb HB7.out (by have := HO7.out; simpa using this) (by rw [List.length_append, ← HN.out]; rfl)
    refine bodyPost_ret (results_row_tmp rfl _ _ (w.heap.size + 1) _ rfl (load_q e1 rfl)) rfl ?_
    exact ⟨_, rfl, e2, e3⟩
  | some ad =>
    clear hnone
    have HC := Lib.hid hcells
    have hnews : ∀ (j : Nat) (u : Value), (xs.map (Value.int .i64))[j]? = some u → W3.cell? (ad.add j) = some u := by
      intro j u hu
      have hj : j < xs.length := by
        have := List.getElem?_eq_some_iff.1 hu
        obtain ⟨h, _⟩ := this
        simpa using h
      obtain ⟨g, off, hg, _, _, hc⟩ := hcells (by intro e; rw [e] at hj; simp at hj)
      obtain rfl : ad = ⟨g, off, none⟩ := Option.some.inj hg
      rw [Open.add_at]
      have h1 := hc j hj
      have h2 := (HBX.out.old.cell (p := ⟨g, off + j, none⟩) (by show g < w.heap.size; exact World.block_lt_of_cell? w _ h1)).trans h1
      rw [h2]
      simpa [hj] using hu
    have HNEWS := Lib.hid hnews
    clear hcells hnews
    rw [HW3.out] at hown0 HNEWS
    go_enter Try.func41, Try.ntmps41
    go_wp2_with (first
      | (at_builtin; refine wpList_append_own _ rfl _ _ 27 rfl (w.heap.size + 2) 3 i0 (.int .i64 0) 1 8 Try.underlying27 hi hz0 hz1 hz2 rfl (by decide) _ _ _ rfl hown0 ad n cap (xs.map (Value.int .i64)) rfl (by rw [List.length_map, HN.out]; omega) HNEWS.out (by simp [Value.oneCell']) (by unfold maxLen; omega) (by omega) (by rw [← HW3.out, hW3s.out]; omega) ?_; intro v1 w5 hown1 hgrow1 _; rw [← HW3.out] at hgrow1; have HB5 := Lib.hid (HBX.out.grown HOWN0.out hgrow1); clear hgrow1 hown0)
      | (at_builtin; refine wpList_append_own _ rfl _ _ 27 rfl (w.heap.size + 2) 3 i0 (.int .i64 0) 1 8 Try.underlying27 hi hz0 hz1 hz2 rfl (by decide) _ _ _ rfl (hown1.alloc _) ⟨w5.heap.size, 0, none⟩ 1 1 [.int .i64 x] rfl rfl (by intro j u hu; match j, hu with | 0, hu => simp at hu; subst hu; simp [go_sem, Addr.add]) (by simp [Value.oneCell']) (by unfold maxLen; omega) (by omega) (by have := HB5.out.lt; simp; omega) ?_; intro v2 w7 hown2 hgrow2 _; have HB7 := Lib.hid ((HB5.out.below ((Below.refl _ w5).alloc (Nat.le_refl _) (.cells #[.int .i64 x] 3))).grown (hown1.alloc _) hgrow2); have HO7 := Lib.hid hown2; obtain ⟨va, vc, rfl⟩ := Clock.own_lit hown2; obtain ⟨c0, c1, f0, f1⟩ := HB7.out.cells; clear hgrow2 hown2 hown1))
    obtain ⟨e1, e2, e3⟩ := rput_end (xs := xs ++ [x]) (r := r) hb HB7.out (by have := HO7.out; simpa using this) (by rw [List.length_append, ← HN.out]; rfl)
    refine bodyPost_ret (results_row_tmp rfl _ _ (w.heap.size + 1) _ rfl (load_q e1 rfl)) rfl ?_
    exact ⟨_, rfl, e2, e3⟩
/-- The reference's Put. -/
theorem rput_any (S : Nat → Prop) (room : Nat) (x : Int) (xs : List Int) (sh : Bool) (u : Value) (w : World) (h : RowFrom S w u xs) (hr : room ≤ 1024) (hb : ∀ b, w.heap.size ≤ b → S b) :
    Calls Try.prog 41 #[.agg #[u, .int .i64 room, .bool sh], .int .i64 x] w (RPost S room sh w (putL room xs sh x) (putE room xs sh)) := by
  unfold putL putE
  cases sh with
  | true => exact rput_shut S room x xs u w h
  | false =>
    by_cases hl : xs.length < room
    · simp only [hl, if_true, Bool.false_eq_true, if_false]
      exact rput_room S room x xs u w h (by omega) (by omega) hb
    · simp only [hl, Bool.false_eq_true, if_false]
      exact rput_full S room x xs u w h (by omega)
end Go.Proofs.Ytndhhpiklaffoaa.Mail
