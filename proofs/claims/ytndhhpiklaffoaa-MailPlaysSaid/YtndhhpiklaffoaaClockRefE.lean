/-
  The reference's clock: contract of its Set.
-/
import Derived.Test.YtndhhpiklaffoaaClockRefD
namespace Go.Proofs.Ytndhhpiklaffoaa.Clock
open Go.RowKit
open Mail (Turn ret_int ret_bool sameInts_any RowOf ownsRow_base info_int)
set_option linter.unusedVariables false

theorem RefRow.mono {base base' : Nat} {w : World} {v : Value} {R : List (Int × Int)} (h : RefRow base w v R) (hb : base' ≤ base) : RefRow base' w v R := by
  refine ⟨h.1, ?_⟩
  rcases h.2 with h0 | ⟨g, cap, cur, rfl, hg, hgb, rest⟩
  · exact .inl h0
  · exact .inr ⟨g, cap, cur, rfl, by omega, hgb, rest⟩
/-- What the reference's Set leaves, and answers. -/
def rputA (now : Int) (R : List (Int × Int)) (id t : Int) : List (Int × Int) := if t < 0 then R else if has R id = false ∧ 64 ≤ R.length then R else dropL R id ++ [(lateI now t, id)]
def rsetE (R : List (Int × Int)) (id t : Int) : Int := if t < 0 then 1 else if has R id = false ∧ 64 ≤ R.length then 3 else 0
def SetPost (base : Nat) (now : Int) (w : World) (R' : List (Int × Int)) (f : Int) (e : Ending) (w' : World) : Prop :=
  ∃ v', e = .returned (.tuple #[.agg #[.int .i64 now, v'], .int .i64 f]) ∧ RefRow base w' v' R' ∧ Below w.heap.size w w'
/-- The last read of a result in block s + 1. -/
theorem rset_run {s : Nat} {W : World} (now : Int) (v : Value) (hr : W.heap[s + 1]? = some (.cells #[.int .i64 now, v] 60 (0, 0))) :
    (loadVar 60 ⟨s + 1, 0, none⟩).run Try.prog W = .ok (.agg #[.int .i64 now, v]) W :=
  run_loadVar_row _ (s + 1) 60 60 #[.int .i64 now, v] (0, 0) _ hr Try.underlying60 rfl size_rc
theorem rset_two {w : World} {s : Nat} (hs : s = w.heap.size) (x y : Array Value) :
    (((w.alloc (.cells x 60)).alloc (.cells y 60)).heap[s + 1]? = some (.cells y 60 (0, 0))) ∧ Below s w ((w.alloc (.cells x 60)).alloc (.cells y 60)) ∧ (((w.alloc (.cells x 60)).alloc (.cells y 60)).heap[s]? = some (.cells x 60 (0, 0))) := by
  have z1 : (w.alloc (.cells x 60)).heap.size = s + 1 := by rw [World.size_alloc, hs]
  refine ⟨?_, ?_, ?_⟩
  · have := heap_alloc_new (w.alloc (.cells x 60)) (.cells y 60)
    rw [z1] at this
    exact this
  · rw [hs]; exact ((Below.refl _ w).alloc (Nat.le_refl _) _).alloc (by simp) _
  · rw [Below.heap_alloc _ _ _ (by rw [z1]; omega), hs]
    exact heap_alloc_new w _
set_option maxRecDepth 100000 in
set_option maxHeartbeats 4000000 in
theorem rset_neg (base : Nat) (now id t : Int) (v : Value) (R : List (Int × Int)) (w : World) (h : RefRow base w v R) (ht : t < 0) :
    Calls Try.prog 28 #[.agg #[.int .i64 now, v], .int .i64 id, .int .i64 t] w (SetPost base now w R 1) := by
  obtain ⟨a, m, cap, rfl⟩ := h.slice
  have hz := (zero_of_info info_rc).1
  obtain ⟨s, hs⟩ : ∃ s, s = w.heap.size := ⟨_, rfl⟩
  obtain ⟨h1, h2, h3⟩ := rset_two hs #[.int .i64 now, .slice a m cap] #[.int .i64 now, .slice a m cap]
  have HRUN := Lib.hid (rset_run now (.slice a m cap) h1)
  have HB := Lib.hid h2
  have HH := Lib.hid h
  have HS := Lib.hid hs
  clear h h1 h2 h3 hs
  go_enter Try.func28, Try.ntmps28
  go_wp2_with fail
  rw [← HS.out]
  refine bodyPost_ret (results_row_tmp rfl _ _ (s + 1) _ rfl HRUN.out) rfl ?_
  refine ⟨_, rfl, HH.out.below (by rw [← HS.out]; exact HB.out), by rw [← HS.out]; exact HB.out⟩
/-- What Set does once its argument lies in block s, and its result's cell behind. -/
structure SS (s : Nat) (w : World) (now : Int) (v : Value) (W : World) : Prop where
  box : W.heap[s]? = some (.cells #[.int .i64 now, v] 60 (0, 0))
  res : W.heap[s + 1]? = some (.cells #[.int .i64 0, .slice none 0 0] 60 (0, 0))
  old : Below s w W
theorem SS.below {s : Nat} {w : World} {now : Int} {v : Value} {W W' : World} (h : SS s w now v W) (u : Below W.heap.size W W') : SS s w now v W' :=
  ⟨(u.block s (lt_of_block h.box)).trans h.box, (u.block (s + 1) (lt_of_block h.res)).trans h.res, h.old.trans (u.mono (by have := lt_of_block h.box; omega))⟩
theorem SS.facts {s : Nat} {w : World} {now : Int} {v : Value} {W : World} (h : SS s w now v W) :
    W.cell? ⟨s, 0, none⟩ = some (.int .i64 now) ∧ W.cell? ⟨s, 1, none⟩ = some v ∧ W.cell? ⟨s + 1, 0, none⟩ = some (.int .i64 0) ∧ W.cell? ⟨s + 1, 1, none⟩ = some (.slice none 0 0) ∧
    (∀ o, W.frozen? ⟨s, o, none⟩ = false) ∧ (∀ o, W.frozen? ⟨s + 1, o, none⟩ = false) :=
  ⟨by simp [World.cell?, h.box], by simp [World.cell?, h.box], by simp [World.cell?, h.res], by simp [World.cell?, h.res], fun o => by simp [World.frozen?, h.box], fun o => by simp [World.frozen?, h.res]⟩
/-- The result stored: what Set answers. -/
theorem SS.end {s : Nat} {w : World} {now : Int} {v u : Value} {W : World} (h : SS s w now v W) (now' : Int) :
    ((W.setCell ⟨s + 1, 0, none⟩ (.int .i64 now')).setCell ⟨s + 1, 1, none⟩ u).heap[s + 1]? = some (.cells #[.int .i64 now', u] 60 (0, 0)) ∧ Below s w ((W.setCell ⟨s + 1, 0, none⟩ (.int .i64 now')).setCell ⟨s + 1, 1, none⟩ u) :=
  ⟨heap_set (heap_set h.res 0 (.int .i64 now')) 1 u, (h.old.setCell (by show s ≤ s + 1; omega) _).setCell (by show s ≤ s + 1; omega) _⟩
theorem RefRow.setCell {base : Nat} {W : World} {v : Value} {R : List (Int × Int)} (h : RefRow base W v R) (k o : Nat) (u : Value) (hk : k < base) : RefRow base (W.setCell ⟨k, o, none⟩ u) v R := by
  refine ⟨h.1, ?_⟩
  rcases h.2 with h0 | ⟨g, cap, cur, rfl, hg, hgb, rest⟩
  · exact .inl h0
  · exact .inr ⟨g, cap, cur, rfl, hg, (Below.heap_setCell _ _ _ _ (by show g ≠ k; omega)).trans hgb, rest⟩
set_option maxRecDepth 100000 in
set_option maxHeartbeats 4000000 in
theorem rset_full (base : Nat) (now id t : Int) (v : Value) (R : List (Int × Int)) (w : World) (h : RefRow base w v R) (hl : R.length ≤ 200) (ht : ¬ t < 0) (hh : has R id = false) (hn : 64 ≤ R.length) :
    Calls Try.prog 28 #[.agg #[.int .i64 now, v], .int .i64 id, .int .i64 t] w (SetPost base now w R 3) := by
  have hsl : ∃ a cap, v = .slice a R.length cap := by
    rcases h.lit with ⟨rfl, rfl⟩ | ⟨g, cap, rfl, _⟩
    · exact ⟨_, _, rfl⟩
    · exact ⟨_, _, rfl⟩
  obtain ⟨a, cap, rfl⟩ := hsl
  obtain ⟨m, hm⟩ : ∃ m, m = R.length := ⟨_, rfl⟩
  have hz := (zero_of_info info_rc).1
  obtain ⟨s, hs⟩ : ∃ s, s = w.heap.size := ⟨_, rfl⟩
  rw [← hm] at h ⊢
  obtain ⟨h1, h2, h3⟩ := rset_two hs #[.int .i64 now, .slice a m cap] #[.int .i64 0, .slice none 0 0]
  obtain ⟨W, hW⟩ : ∃ W, W = ((w.alloc (.cells #[.int .i64 now, .slice a m cap] 60)).alloc (.cells #[.int .i64 0, .slice none 0 0] 60)) := ⟨_, rfl⟩
  rw [← hW] at h1 h2 h3
  have hS : SS s w now (.slice a m cap) W := ⟨h3, h1, h2⟩
  have hR := h.below (by rw [← hs]; exact h2)
  have hf := rfind_any base now id (.slice a m cap) R W hR hl
  rw [hh] at hf
  have hmm : ¬ m < 64 := by omega
  have HF := Lib.hid hf
  have HSS := Lib.hid hS
  have HH := Lib.hid h
  have HS := Lib.hid hs
  have HW := Lib.hid hW
  clear h h1 h2 h3 hs hf hW hR hS hm hn hl hh
  go_enter Try.func28, Try.ntmps28
  go_wp2_with fail
  rw [← HW.out, ← HS.out]
  refine HF.out.mono ?_
  rintro e w1 ⟨rfl, u1⟩
  have h1 := HSS.out.below u1
  obtain ⟨b0, b1, r0, r1, fb, fr⟩ := h1.facts
  obtain ⟨e1, e2⟩ := h1.end (u := .slice a m cap) now
  have HRUN := Lib.hid (rset_run now _ e1)
  have HB := Lib.hid e2
  clear u1 h1 e1 e2
  go_wp2_with fail
  (try simp only [Exit.inBlock, Exit.then])
  refine bodyPost_ret (results_row_tmp rfl _ _ (s + 1) _ rfl HRUN.out) rfl ?_
  refine ⟨_, rfl, HH.out.below (by rw [← HS.out]; exact HB.out), by rw [← HS.out]; exact HB.out⟩
theorem SS.put {s : Nat} {w : World} {now : Int} {v : Value} {W : World} (h : SS s w now v W) (u : Value) : SS s w now u ((W.setCell ⟨s, 0, none⟩ (.int .i64 now)).setCell ⟨s, 1, none⟩ u) :=
  ⟨heap_set (heap_set h.box 0 (.int .i64 now)) 1 u, (Below.heap_setCell _ _ _ _ (by show s + 1 ≠ s; omega)).trans ((Below.heap_setCell _ _ _ _ (by show s + 1 ≠ s; omega)).trans h.res), (h.old.setCell (Nat.le_refl _) _).setCell (Nat.le_refl _) _⟩
theorem SS.put1 {s : Nat} {w : World} {now : Int} {v : Value} {W : World} (h : SS s w now v W) (u : Value) : SS s w now u (W.setCell ⟨s, 1, none⟩ u) :=
  ⟨heap_set h.box 1 u, (Below.heap_setCell _ _ _ _ (by show s + 1 ≠ s; omega)).trans h.res, h.old.setCell (Nat.le_refl _) _⟩
theorem SS.lt {s : Nat} {w : World} {now : Int} {v : Value} {W : World} (h : SS s w now v W) : s + 2 ≤ W.heap.size := by have := lt_of_block h.res; omega
theorem SS.grown {s base : Nat} {w : World} {now : Int} {v u : Value} {W w5 : World} {o : Obj} {A : List (Int × Int)} (h : SS s w now u W) (hr : RefRow base W v A) (hb : s + 2 ≤ base) (hg : (W.alloc o).grownBy w5 v.ownBlock) : SS s w now u w5 := by
  have hl := h.lt
  have hne : ∀ r, v.ownBlock = some r → s + 2 ≤ r := fun r e => by
    rcases hr.2 with ⟨rfl, _⟩ | ⟨g, cap, cur, rfl, hg', _, _⟩
    · cases e
    · obtain rfl : r = g := by simpa [Value.ownBlock, eq_comm] using e
      omega
  have e : ∀ k, k < s + 2 → w5.heap[k]? = W.heap[k]? := fun k hk =>
    (hg.block k (by rw [World.size_alloc]; omega) (fun e => by have := hne k e.symm; omega)).trans (Below.heap_alloc _ _ _ (by omega))
  exact ⟨(e s (by omega)).trans h.box, (e (s + 1) (by omega)).trans h.res, (h.old.alloc (by omega) o).grown hg (by rw [World.size_alloc]; omega) (fun r e => by have := hne r e; omega)⟩
theorem store_row {base : Nat} {W : World} {v : Value} {R : List (Int × Int)} (h : RefRow base W v R) : ∀ (w : World) (a : Addr) (m : Mode), (store a v m).run Try.prog w = stored Try.prog w a v m := fun w a m => by
  obtain ⟨_, _, _, rfl⟩ := h.slice
  exact run_store Try.prog w a _ m rfl
theorem late_cases {now t : Int} : (t < 1099511627776 - now ∧ lateI now t = now + t) ∨ (¬ t < 1099511627776 - now ∧ lateI now t = 1099511627776) := by
  unfold lateI
  by_cases h : t < 1099511627776 - now
  · exact .inl ⟨h, by omega⟩
  · exact .inr ⟨h, by omega⟩
set_option maxRecDepth 100000 in
set_option maxHeartbeats 4000000 in
theorem rset_put (base : Nat) (now id t : Int) (v : Value) (R : List (Int × Int)) (w : World) (h : RefRow base w v R) (hl : R.length ≤ 100) (ht : ¬ t < 0) (hh : has R id = true ∨ R.length < 64) (n0 : 0 ≤ now) (n1 : now ≤ 1099511627776) (hb : base ≤ w.heap.size) :
    Calls Try.prog 28 #[.agg #[.int .i64 now, v], .int .i64 id, .int .i64 t] w (SetPost base now w (dropL R id ++ [(lateI now t, id)]) 0) := by
  have hsl : ∃ a cap, v = .slice a R.length cap := by
    rcases h.lit with ⟨rfl, rfl⟩ | ⟨g, cap, rfl, _⟩
    · exact ⟨_, _, rfl⟩
    · exact ⟨_, _, rfl⟩
  obtain ⟨a, cap, rfl⟩ := hsl
  obtain ⟨m, hm⟩ : ∃ m, m = R.length := ⟨_, rfl⟩
  have hz := (zero_of_info info_rc).1
  obtain ⟨i0, hi, hz0, hz1, hz2⟩ := info_parts info_ra
  obtain ⟨s, hs⟩ : ∃ s, s = w.heap.size := ⟨_, rfl⟩
  rw [← hm] at h hh ⊢
  obtain ⟨h1, h2, h3⟩ := rset_two hs #[.int .i64 now, .slice a m cap] #[.int .i64 0, .slice none 0 0]
  obtain ⟨W, hW⟩ : ∃ W, W = ((w.alloc (.cells #[.int .i64 now, .slice a m cap] 60)).alloc (.cells #[.int .i64 0, .slice none 0 0] 60)) := ⟨_, rfl⟩
  rw [← hW] at h1 h2 h3
  have hS : SS s w now (.slice a m cap) W := ⟨h3, h1, h2⟩
  have hR := h.below (by rw [← hs]; exact h2)
  have hf := rfind_any base now id (.slice a m cap) R W hR (by omega)
  obtain ⟨b, hb'⟩ : ∃ b, b = has R id := ⟨_, rfl⟩
  rw [← hb'] at hf hh
  have HF := Lib.hid hf
  have HSS := Lib.hid hS
  have HH := Lib.hid h
  have HS := Lib.hid hs
  have HW := Lib.hid hW
  have HL := Lib.hid hl
  clear h h1 h2 h3 hs hf hW hR hS hm hl hb'
  rcases late_cases (now := now) (t := t) with ⟨hlt, hlate⟩ | ⟨hlt, hlate⟩
  all_goals
    have HLATE := Lib.hid hlate
    clear hlate
    go_enter Try.func28, Try.ntmps28
    go_wp2_with fail
    rw [← HW.out, ← HS.out]
    refine HF.out.mono ?_
    rintro e w1 ⟨rfl, u1⟩
    have h1 := HSS.out.below u1
    obtain ⟨b0, b1, r0, r1, fb, fr⟩ := h1.facts
    have H1 := Lib.hid h1
    clear u1 h1
    cases b
    case' false => (have hm64 : m < 64 := by simpa using hh)
    all_goals
      clear hh
      go_wp2_with fail
      refine (rdrop_any base now id (.slice a m cap) R w1 (HH.out.below (by rw [← HS.out]; exact H1.out.old)) (by have := HL.out; omega)).mono ?_
      rintro e w2 ⟨v2, rfl, hr2, u2⟩
      have h2 := H1.out.below u2
      have hb2 : s + 2 ≤ w1.heap.size := H1.out.lt
      have h3 := h2.put v2
      have hr3 := (hr2.setCell s 0 (.int .i64 now) (by omega)).setCell s 1 v2 (by omega)
      obtain ⟨b0, b1, r0, r1, fb, fr⟩ := h2.facts
      have hown := hr3
      unfold RefRow at hown
      have hal : (dropL R id).length ≤ 100 := Nat.le_trans (List.length_filter_le _ _) HL.out
      obtain ⟨A, hA⟩ : ∃ A, A = dropL R id := ⟨_, rfl⟩
      rw [← hA] at hown hal hr3
      have HA := Lib.hid hA
      have HR3 := Lib.hid hr3
      have H3 := Lib.hid h3
      have hst := store_row hr2
      have hws : w1.heap.size ≤ w2.heap.size := u2.size
      obtain ⟨due, hdue⟩ : ∃ due, due = lateI now t := ⟨_, rfl⟩
      rw [← hdue] at HLATE ⊢
      rw [← hA]
      rw [← HLATE.out]
      have HDUE := Lib.hid hdue
      clear hdue
      have hcl : ∀ (j : Nat) (u : Value), ([.int .i64 id, .int .i64 due] : List Value)[j]? = some u → (((w2.setCell ⟨s, 0, none⟩ (.int .i64 now)).setCell ⟨s, 1, none⟩ v2).alloc (.cells #[.int .i64 id, .int .i64 due] 75)).cell? ((⟨w2.heap.size, 0, none⟩ : Addr).add j) = some u := by
        intro j u hu
        match j, hu with
        | 0, hu => simp at hu; subst hu; simp [go_sem, Addr.add]
        | 1, hu => simp at hu; subst hu; simp [go_sem, Addr.add]
      have HCL := Lib.hid hcl
      clear h2 h3 hr2 hr3 u2 hA hcl
      go_wp2_with (at_builtin; refine wpList_append_own _ rfl _ _ 58 rfl w1.heap.size 75 i0 (.agg #[.int .i64 0, .int .i64 0]) 2 16 Try.underlying58 hi hz0 hz1 hz2 rfl (by decide) _ _ _ rfl (hown.alloc _) ⟨w2.heap.size, 0, none⟩ 1 1 [.int .i64 id, .int .i64 due] rfl rfl HCL.out (by simp [Value.oneCell']) (by unfold maxLen; omega) (by omega) (by rw [World.size_alloc]; simp; omega) ?_; intro v' w5 hown' hgrow _; have H5 := Lib.hid (H3.out.grown HR3.out hb2 hgrow); have hr5 : RefRow w1.heap.size w5 v' (A ++ [(due, id)]) := (by unfold RefRow; rw [List.length_append, flatR_append]; exact hown'); obtain ⟨va, vm, vc, rfl⟩ := hr5.slice; have HR5 := Lib.hid hr5; obtain ⟨b0, b1, r0, r1, fb, fr⟩ := H5.out.facts; clear hgrow hown hown' hr5)
      (try simp only [Exit.inBlock, Exit.then])
      obtain ⟨e1, e2⟩ := (H5.out.put1 (.slice va vm vc)).end (u := .slice va vm vc) now
      have hr6 := ((HR5.out.setCell s 1 (.slice va vm vc) (by omega)).setCell (s + 1) 0 (.int .i64 now) (by omega)).setCell (s + 1) 1 (.slice va vm vc) (by omega)
      refine bodyPost_ret (results_row_tmp rfl _ _ (s + 1) _ rfl (rset_run now _ e1)) rfl ?_
      refine ⟨_, rfl, ?_, by rw [← HS.out]; exact e2⟩
      rw [← HDUE.out, ← HA.out]
      exact hr6.mono (by have := HS.out; omega)
/-- The reference's Set. -/
theorem rset_any (base : Nat) (now id t : Int) (v : Value) (R : List (Int × Int)) (w : World) (h : RefRow base w v R) (hl : R.length ≤ 100) (n0 : 0 ≤ now) (n1 : now ≤ 1099511627776) (hb : base ≤ w.heap.size) :
    Calls Try.prog 28 #[.agg #[.int .i64 now, v], .int .i64 id, .int .i64 t] w (SetPost base now w (rputA now R id t) (rsetE R id t)) := by
  unfold rputA rsetE
  by_cases ht : t < 0
  · rw [if_pos ht, if_pos ht]; exact rset_neg base now id t v R w h ht
  · rw [if_neg ht, if_neg ht]
    by_cases hh : has R id = false ∧ 64 ≤ R.length
    · rw [if_pos hh, if_pos hh]; exact rset_full base now id t v R w h (by omega) ht hh.1 hh.2
    · rw [if_neg hh, if_neg hh]
      refine rset_put base now id t v R w h hl ht ?_ n0 n1 hb
      cases hx : has R id with
      | true => exact .inl rfl
      | false => exact .inr (Nat.lt_of_not_le fun k => hh ⟨hx, k⟩)
end Go.Proofs.Ytndhhpiklaffoaa.Clock
