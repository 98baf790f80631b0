/-
  The reference's queues: contracts of its New, Room, Get.
-/
import Derived.Test.YtndhhpiklaffoaaMailE
import Derived.Test.YtndhhpiklaffoaaClockRefF
import Derived.Laws.ResultCell
namespace Go.Proofs.Ytndhhpiklaffoaa.Mail
open Go.RowKit
open Clock (heap_set results_row_tmp)
set_option linter.unusedVariables false

theorem info_rq : (Try.prog.info? 29).map (fun i => (i.zero, i.size)) = some (some (.agg #[.slice none 0 0, .int .i64 0, .bool false]), 3) := by kernel_rfl
theorem size_rq : (Try.prog.info? 29).map (·.size) = some 3 := by kernel_rfl
/-- A row of numbers that can be read, in a block of S. -/
def RowFrom (S : Nat → Prop) (w : World) (u : Value) (xs : List Int) : Prop :=
  ∃ a cap, u = .slice a xs.length cap ∧ xs.length ≤ cap ∧ cap ≤ maxLen ∧ (a = none → cap = 0) ∧ (xs ≠ [] → ∃ b off, a = some ⟨b, off, none⟩ ∧ S b ∧ (∃ cs fz, w.heap[b]? = some (.cells cs 3 fz)) ∧ ∀ i, i < xs.length → w.cell? ⟨b, off + i, none⟩ = some (.int .i64 (xs[i]?.getD 0)))
theorem held_any (n : Int) (w : World) : Calls Try.prog 40 #[.int .i64 n, .int .i64 0, .int .i64 1024] w fun e w' => e = .returned (.int .i64 (roomOf n)) ∧ w = w' := by
  have h : (n < 0 ∧ (roomOf n : Int) = 0) ∨ (¬ n < 0 ∧ 1024 < n ∧ (roomOf n : Int) = 1024) ∨ (¬ n < 0 ∧ ¬ 1024 < n ∧ (roomOf n : Int) = n) := by unfold roomOf; omega
  rcases h with ⟨h1, h2⟩ | ⟨h1, h3, h2⟩ | ⟨h1, h3, h2⟩
  all_goals
    rw [h2]
    clear h2
    go_enter Try.func40, Try.ntmps40
    go_wp2
    go_ret
    exact ⟨rfl, rfl⟩
set_option maxRecDepth 100000 in
theorem rnew_any (n : Int) (w : World) : Calls Try.prog 13 #[.int .i64 n] w fun e w' => e = .returned (.agg #[.slice none 0 0, .int .i64 (roomOf n), .bool false]) ∧ Below w.heap.size w w' := by
  have hz := (zero_of_info info_rq).1
  obtain ⟨r, hr⟩ : ∃ r, r = (roomOf n : Int) := ⟨_, rfl⟩
  have hh := held_any n
  rw [← hr] at hh ⊢
  have HH := Lib.hid hh
  clear hr hh
  go_enter Try.func13, Try.ntmps13
  go_wp2_with (go_at_call 40; refine (HH.out _).mono ?_; rintro e w' ⟨rfl, rfl⟩)
  (try simp only [Exit.inBlock, Exit.then])
  refine bodyPost_ret (results_cell_row rfl _ _ w.heap.size 29 _ (0, 0) _ rfl (heap_alloc_new w _) Try.underlying29 rfl size_rq) rfl ?_
  exact ⟨rfl, (Below.refl _ w).alloc (Nat.le_refl _) _⟩
set_option maxRecDepth 100000 in
theorem rroom_any (r : Int) (u : Value) (sh : Bool) (xs : List Int) (S : Nat → Prop) (w : World) (h : RowFrom S w u xs) (h0 : 0 ≤ r) (h1 : r ≤ 1024) :
    Calls Try.prog 17 #[.agg #[u, .int .i64 r, .bool sh]] w fun e w' => e = .returned (.int .i64 (if sh then 0 else r - xs.length)) ∧ Below w.heap.size w w' := by
  obtain ⟨a, cap, rfl, hc, hm, _, _⟩ := h
  obtain ⟨n, hn⟩ : ∃ n, n = xs.length := ⟨_, rfl⟩
  rw [← hn] at hc ⊢
  unfold maxLen at hm
  clear hn
  cases sh with
  | true =>
    go_enter Try.func17, Try.ntmps17
    go_wp2
    go_ret
    exact ⟨rfl, (Below.refl _ w).alloc (Nat.le_refl _) _⟩
  | false =>
    go_enter Try.func17, Try.ntmps17
    go_wp2
    go_ret
    exact ⟨rfl, (Below.refl _ w).alloc (Nat.le_refl _) _⟩
/-! ### Results -/
theorem results_row_tmp2 {fn : Func} {p u x : Tmp} {ty : TypeId} (h : fn.results = #[.cell p ty, .tmp u, .tmp x]) (tmps : Array Value) (w : World) (g : Nat) (cs : Array Value)
    (hp : tmps.getD p undef = .pointer (some ⟨g, 0, none⟩)) (hrun : (loadVar ty ⟨g, 0, none⟩).run Try.prog w = .ok (.agg cs) w) :
    (results fn tmps).run Try.prog w = .ok (.tuple #[.agg cs, tmps.getD u undef, tmps.getD x undef]) w := by
  have hp' : tmps[p]?.getD undef = .pointer (some ⟨g, 0, none⟩) := by simpa using hp
  simp only [results, h]
  simp [Result.andThen, hp', asAddr, hrun]
theorem results_row2_tmp {fn : Func} {p q u : Tmp} {ty ty' : TypeId} (h : fn.results = #[.cell p ty, .cell q ty', .tmp u]) (tmps : Array Value) (w : World) (g g' : Nat) (cs cs' : Array Value)
    (hp : tmps.getD p undef = .pointer (some ⟨g, 0, none⟩)) (hrun : (loadVar ty ⟨g, 0, none⟩).run Try.prog w = .ok (.agg cs) w)
    (hq : tmps.getD q undef = .pointer (some ⟨g', 0, none⟩)) (hrun' : (loadVar ty' ⟨g', 0, none⟩).run Try.prog w = .ok (.agg cs') w) :
    (results fn tmps).run Try.prog w = .ok (.tuple #[.agg cs, .agg cs', tmps.getD u undef]) w := by
  have hp' : tmps[p]?.getD undef = .pointer (some ⟨g, 0, none⟩) := by simpa using hp
  have hq' : tmps[q]?.getD undef = .pointer (some ⟨g', 0, none⟩) := by simpa using hq
  simp only [results, h]
  simp [Sem.run_bind, Result.andThen, hp', hq', asAddr, hrun, hrun']
theorem load_q {g : Nat} {W : World} {cs : Array Value} (hr : W.heap[g]? = some (.cells cs 29 (0, 0))) (hs : cs.size = 3) : (loadVar 29 ⟨g, 0, none⟩).run Try.prog W = .ok (.agg cs) W :=
  run_loadVar_row _ g 29 29 cs (0, 0) _ hr Try.underlying29 rfl (by rw [hs]; exact size_rq)
/-- Two boxes made one behind the other. -/
theorem two_boxes {w : World} {s : Nat} (hs : s = w.heap.size) (t t' : TypeId) (x y : Array Value) :
    (((w.alloc (.cells x t)).alloc (.cells y t')).heap[s + 1]? = some (.cells y t' (0, 0))) ∧ Below s w ((w.alloc (.cells x t)).alloc (.cells y t')) ∧ (((w.alloc (.cells x t)).alloc (.cells y t')).heap[s]? = some (.cells x t (0, 0))) := by
  have z1 : (w.alloc (.cells x t)).heap.size = s + 1 := by rw [World.size_alloc, hs]
  refine ⟨?_, ?_, ?_⟩
  · have := heap_alloc_new (w.alloc (.cells x t)) (.cells y t')
    rw [z1] at this
    exact this
  · rw [hs]; exact ((Below.refl _ w).alloc (Nat.le_refl _) _).alloc (by simp) _
  · rw [Below.heap_alloc _ _ _ (by rw [z1]; omega), hs]
    exact heap_alloc_new w _
/-! ### Get -/
theorem RowFrom.below {S : Nat → Prop} {w w' : World} {u : Value} {xs : List Int} (h : RowFrom S w u xs) (b : Below w.heap.size w w') : RowFrom S w' u xs := by
  obtain ⟨a, cap, rfl, h1, h2, h0, h3⟩ := h
  refine ⟨a, cap, rfl, h1, h2, h0, fun hne => ?_⟩
  obtain ⟨g, off, rfl, hg, ⟨cs, fz, hb⟩, hc⟩ := h3 hne
  exact ⟨g, off, rfl, hg, ⟨cs, fz, (b.block g (lt_of_block hb)).trans hb⟩, fun i hi => (b.cell (p := ⟨g, off + i, none⟩) (World.block_lt_of_cell? w _ (hc i hi))).trans (hc i hi)⟩
theorem RowFrom.nil {S : Nat → Prop} {w : World} : RowFrom S w (.slice none 0 0) [] := ⟨none, 0, rfl, Nat.le_refl _, by simp [maxLen], fun _ => rfl, fun h => absurd rfl h⟩
set_option maxRecDepth 100000 in
theorem rget_nil (S : Nat → Prop) (r : Int) (u : Value) (sh : Bool) (w : World) (h : RowFrom S w u []) :
    Calls Try.prog 42 #[.agg #[u, .int .i64 r, .bool sh]] w fun e w' => e = .returned (.tuple #[.agg #[u, .int .i64 r, .bool sh], .int .i64 0, .bool false]) ∧ Below w.heap.size w w' := by
  obtain ⟨a, cap, rfl, hc, hm, _, _⟩ := h
  have hz := (zero_of_info info_rq).1
  simp only [List.length_nil]
  obtain ⟨s, hs⟩ : ∃ s, s = w.heap.size := ⟨_, rfl⟩
  obtain ⟨h1, h2, h3⟩ := two_boxes hs 29 29 #[.slice a 0 cap, .int .i64 r, .bool sh] #[.slice a 0 cap, .int .i64 r, .bool sh]
  have HRUN := Lib.hid (load_q h1 rfl)
  have HB := Lib.hid h2
  have HS := Lib.hid hs
  clear h1 h2 h3 hs
  go_enter Try.func42, Try.ntmps42
  go_wp2_with fail
  rw [← HS.out]
  refine bodyPost_ret (results_row_tmp2 rfl _ _ (s + 1) _ rfl HRUN.out) rfl ?_
  exact ⟨rfl, HB.out⟩
set_option maxRecDepth 100000 in
theorem rget_cons (S : Nat → Prop) (r x : Int) (xs : List Int) (u : Value) (sh : Bool) (w : World) (h : RowFrom S w u (x :: xs)) :
    Calls Try.prog 42 #[.agg #[u, .int .i64 r, .bool sh]] w fun e w' => ∃ u', e = .returned (.tuple #[.agg #[u', .int .i64 r, .bool sh], .int .i64 x, .bool true]) ∧ RowFrom S w' u' xs ∧ Below w.heap.size w w' := by
  obtain ⟨a, cap, rfl, hc, hm, _, hr⟩ := h
  obtain ⟨g, off, rfl, hg, hty, hcell⟩ := hr (by simp)
  have hz := (zero_of_info info_rq).1
  have hx : w.cell? ⟨g, off, none⟩ = some (.int .i64 x) := by simpa using hcell 0 (by simp)
  have hgw := World.block_lt_of_cell? w _ hx
  obtain ⟨n, hn⟩ : ∃ n, n = xs.length := ⟨_, rfl⟩
  rw [show (x :: xs).length = n + 1 by rw [hn]; rfl] at hc ⊢
  have hn0 : ((n + 1 : Nat) == 0) = false := by simp
  have HC := Lib.hid hcell
  have HN := Lib.hid hn
  have HTY := Lib.hid hty
  unfold maxLen at hm
  clear hcell hn hty
  obtain ⟨s, hs⟩ : ∃ s, s = w.heap.size := ⟨_, rfl⟩
  have hcc : cap = 1 ∨ ∃ c, cap = c + 2 := by
    rcases Nat.lt_or_ge 1 cap with h | h
    · exact .inr ⟨cap - 2, by omega⟩
    · exact .inl (by omega)
  rcases hcc with rfl | ⟨c, rfl⟩
  · obtain rfl : n = 0 := by omega
    obtain ⟨h1, h2, h3⟩ := two_boxes hs 29 29 #[.slice (some ⟨g, off, none⟩) 0 0, .int .i64 r, .bool sh] #[.slice (some ⟨g, off, none⟩) 0 0, .int .i64 r, .bool sh]
    have HRUN := Lib.hid (load_q h1 rfl)
    have HB := Lib.hid h2
    have HS := Lib.hid hs
    clear h1 h2 h3 hs hr hc hm
    go_enter Try.func42, Try.ntmps42
    go_wp2_with fail
    rw [← HS.out]
    refine bodyPost_ret (results_row_tmp2 rfl _ _ (s + 1) _ rfl HRUN.out) rfl ?_
    obtain rfl : xs = [] := List.eq_nil_of_length_eq_zero HN.out.symm
    exact ⟨_, rfl, ⟨_, 0, rfl, Nat.le_refl _, by simp [maxLen], fun _ => rfl, fun h => absurd rfl h⟩, HB.out⟩
  · obtain ⟨h1, h2, h3⟩ := two_boxes hs 29 29 #[.slice (some ⟨g, off + 1, none⟩) n (c + 1), .int .i64 r, .bool sh] #[.slice (some ⟨g, off + 1, none⟩) n (c + 1), .int .i64 r, .bool sh]
    have HRUN := Lib.hid (load_q h1 rfl)
    have HB := Lib.hid h2
    have HS := Lib.hid hs
    clear h1 h2 h3 hs hr
    go_enter Try.func42, Try.ntmps42
    go_wp2_with fail
    rw [← HS.out]
    refine bodyPost_ret (results_row_tmp2 rfl _ _ (s + 1) _ rfl HRUN.out) rfl ?_
    refine ⟨_, rfl, ⟨_, c + 1, by rw [HN.out], by have := HN.out; omega, by simp [maxLen]; omega, fun h => by simp at h, fun _ => ⟨g, off + 1, rfl, hg, by obtain ⟨cs, fz, hb⟩ := HTY.out; exact ⟨cs, fz, (HB.out.block g (by rw [HS.out]; exact hgw)).trans hb⟩, fun i hi => ?_⟩⟩, HB.out⟩
    have h1 := HC.out (i + 1) (by simpa using hi)
    have h2 := (HB.out.cell (p := ⟨g, off + (i + 1), none⟩) (by show g < s; rw [HS.out]; exact hgw)).trans h1
    rw [show off + 1 + i = off + (i + 1) by omega]
    simpa using h2
end Go.Proofs.Ytndhhpiklaffoaa.Mail
