/-
  Contracts of the reference's SameInts and of the statements' helper that takes what waits, one after the other, as far as is asked for.
-/
import Derived.Test.YtndhhpiklaffoaaMailC
import Derived.Lib.SmallJoins
namespace Go.Proofs.Ytndhhpiklaffoaa.Mail
open Go.RowKit Go.Conc Go.Shelf
attribute [local go_sem] Oper.semAt_some
set_option linter.unusedVariables false

theorem ret_int {k : IntKind} {a b : Int} (h : a = b) : Ending.returned (.int k a) = .returned (.int k b) := by rw [h]
theorem ret_bool {a b : Bool} (h : a = b) : Ending.returned (.bool a) = .returned (.bool b) := by rw [h]
/-- A slice value that reads as a row of numbers of kind k. -/
def RowOf (k : IntKind) (w : World) (v : Value) (L : List Int) : Prop :=
  ∃ a cap, v = .slice a L.length cap ∧ (L ≠ [] → ∃ b off, a = some ⟨b, off, none⟩ ∧ ∀ i, i < L.length → w.cell? ⟨b, off + i, none⟩ = some (.int k (L[i]?.getD 0)))
theorem RowOf.of_owns {k : IntKind} {w : World} {base : Nat} {e : TypeId} {v : Value} {L : List Int} (h : w.ownsRow base e 1 v L.length (L.map (Value.int k))) : RowOf k w v L := by
  rcases h.2 with ⟨rfl, h0⟩ | ⟨g, cap, cur, rfl, _, hg, _, _, _, _⟩
  · exact ⟨none, 0, by rw [h0], fun hne => absurd (List.eq_nil_of_length_eq_zero h0) hne⟩
  · refine ⟨_, cap, rfl, fun _ => ⟨g, 0, rfl, fun i hi => ?_⟩⟩
    have := World.ownsRow.cells h (g := g) rfl i (.int k (L[i]?.getD 0)) (by simp [hi])
    rw [show (0 : Nat) + i = i from Nat.zero_add i]
    by_cases hi0 : i = 0
    · subst hi0; simpa [Addr.add] using this
    · simpa [Addr.add, hi0] using this
theorem RowOf.kept {k : IntKind} {w w' : World} {v : Value} {L : List Int} (h : RowOf k w v L) (hc : ∀ b o x, w.cell? ⟨b, o, none⟩ = some x → w'.cell? ⟨b, o, none⟩ = some x) : RowOf k w' v L := by
  obtain ⟨a, cap, rfl, hr⟩ := h
  exact ⟨a, cap, rfl, fun hne => by obtain ⟨b, off, rfl, hi⟩ := hr hne; exact ⟨b, off, rfl, fun i h => hc _ _ _ (hi i h)⟩⟩
theorem RowOf.below {k : IntKind} {w w' : World} {v : Value} {L : List Int} (h : RowOf k w v L) (hb : Below w.heap.size w w') : RowOf k w' v L :=
  h.kept fun _ o _ hx => (hb.cell (p := ⟨_, o, none⟩) (World.block_lt_of_cell? w ⟨_, o, none⟩ hx)).trans hx
theorem take_same (A B : List Int) (k : Nat) (hA : k < A.length) (hB : k < B.length) (h : A.take k = B.take k) : A.take (k + 1) = B.take (k + 1) ↔ A[k]?.getD 0 = B[k]?.getD 0 := by
  have e : A[k]?.getD 0 = A[k] ∧ B[k]?.getD 0 = B[k] := ⟨by simp [hA], by simp [hB]⟩
  rw [e.1, e.2, List.take_succ_eq_append_getElem hA, List.take_succ_eq_append_getElem hB, h]
  constructor
  · intro h'; simpa using (List.append_cancel_left h')
  · intro h'; rw [h']
theorem same_stop (A B : List Int) (k : Nat) (hne : ¬ A[k]?.getD 0 = B[k]?.getD 0) : decide (A = B) = false := by
  rw [decide_eq_false_iff_not]
  rintro rfl
  exact hne rfl
theorem same_all (A B : List Int) (n : Nat) (hA : A.length = n) (hB : B.length = n) (h : A.take n = B.take n) : decide (A = B) = true := by
  rw [decide_eq_true_iff]
  rw [List.take_of_length_le (by omega), List.take_of_length_le (by omega)] at h
  exact h

set_option maxHeartbeats 1000000 in
theorem sameInts_any (u v : Value) (A B : List Int) (w : World) (hA : RowOf .i64 w u A) (hB : RowOf .i64 w v B) (hm : A.length ≤ maxLen) :
    Calls Try.prog 19 #[u, v] w fun e w' => e = .returned (.bool (decide (A = B))) ∧ ∃ n, w' = w.drewN n := by
  obtain ⟨a, cap, rfl, hra⟩ := hA
  obtain ⟨b, cap', rfl, hrb⟩ := hB
  unfold maxLen at hm
  by_cases hl : A.length = B.length
  · obtain ⟨n, hn⟩ : ∃ n, n = A.length := ⟨_, rfl⟩
    have hA' := Lib.hid hn.symm
    have hB' : Hid (B.length = n) := by rw [hn, hl]; exact rfl
    rw [← hl, ← hn]
    rw [← hl, ← hn] at hrb
    rw [← hn] at hm hra
    clear hl hn
    by_cases h0 : n = 0
    · have hd : decide (A = B) = true := same_all A B 0 (by rw [hA'.out, h0]) (by rw [hB'.out, h0]) (by simp)
      rw [hd]
      clear hd
      subst h0
      go_enter Try.func19, Try.ntmps19
      go_wp2
      go_loop [5] (fun i => i = .int .i64 0) (fun _ => 0)
      case atStart => rfl
      case round =>
        obtain rfl := hrel
        go_wp2
        go_ret
        exact ⟨rfl, 0, rfl⟩
    · obtain ⟨g, off, rfl, hga⟩ := hra (fun e => h0 (by rw [← hA'.out, e]; rfl))
      obtain ⟨g', off', rfl, hgb⟩ := hrb (fun e => h0 (by rw [← hB'.out, e]; rfl))
      clear hra hrb
      have HA := Lib.hid hga
      have HB := Lib.hid hgb
      clear hga hgb
      go_enter Try.func19, Try.ntmps19
      go_wp2
      go_loopw [5] (fun i wr => ∃ k j : Nat, k ≤ n ∧ i = .int .i64 k ∧ Hid (A.take k = B.take k) ∧ wr = w.drewN j) (fun i _ => n - (intOf i).toNat)
      case atStart => exact ⟨0, 0, Nat.zero_le _, rfl, rfl, rfl⟩
      case round =>
        obtain ⟨k, j, hk, rfl, HT, rfl⟩ := hrel
        by_cases hlt : k < n
        · have ca : w.cell? ⟨g, off + k, none⟩ = some (.int .i64 (A[k]?.getD 0)) := HA.out k hlt
          have cb : w.cell? ⟨g', off' + k, none⟩ = some (.int .i64 (B[k]?.getD 0)) := HB.out k hlt
          obtain ⟨x, hx⟩ : ∃ x, x = A[k]?.getD 0 := ⟨_, rfl⟩
          obtain ⟨y, hy⟩ : ∃ y, y = B[k]?.getD 0 := ⟨_, rfl⟩
          rw [← hx] at ca
          rw [← hy] at cb
          have HX := Lib.hid hx
          have HY := Lib.hid hy
          clear hx hy
          have hkn : (k : Int) < (n : Int) := by omega
          by_cases hxy : x = y
          · have ht : (x != y) = false := by simp [hxy]
            have HE := Lib.hid hxy
            clear hxy
            go_wp2
            go_quiet (fail)
            go_wp2
            go_roundw
            case rel => exact ⟨k + 1, _, by omega, by go_num, (take_same A B k (by rw [hA'.out]; exact hlt) (by rw [hB'.out]; exact hlt) HT.out).2 (by rw [← HX.out, ← HY.out]; exact HE.out), by first | rfl | (simp; done)⟩
            case measure => simp [intOf]; omega
          · have ht : (x != y) = true := by simp [hxy]
            have HE := Lib.hid hxy
            clear hxy
            go_wp2
            go_quiet (fail)
            go_wp2
            go_ret
            exact ⟨ret_bool (same_stop A B k (by rw [← HX.out, ← HY.out]; exact HE.out)).symm, j + nq, by simp⟩
        · obtain rfl : k = n := by omega
          go_wp2
          go_ret
          exact ⟨ret_bool (same_all A B k hA'.out hB'.out HT.out).symm, _, rfl⟩
  · have hd : decide (A = B) = false := by rw [decide_eq_false_iff_not]; rintro rfl; exact hl rfl
    rw [hd]
    have hl' : ((A.length : Int) != (B.length : Int)) = true := by simp; omega
    go_enter Try.func19, Try.ntmps19
    go_wp2
    go_ret
    exact ⟨rfl, 0, rfl⟩


/-! ### What waits, taken one after the other -/
theorem info_int : (Try.prog.info? 3).map (fun i => (i.zero, i.size, i.bytes)) = some (some (.int .i64 0), 1, 8) := by kernel_rfl
theorem ownsRow_base {w : World} {base base' : Nat} {e : TypeId} {size : Nat} {v : Value} {n : Nat} {xs : List Value} (h : w.ownsRow base e size v n xs) (hb : base' ≤ base) : w.ownsRow base' e size v n xs := by
  refine ⟨h.1, ?_⟩
  rcases h.2 with h2 | ⟨g, cap, cur, hv, hg, rest⟩
  · exact .inl h2
  · exact .inr ⟨g, cap, cur, hv, by omega, rest⟩
/-- What the loop knows: j were taken out, k of them stand in the list. -/
structure TI (s N most c room : Nat) (xs : List Int) (shut : Bool) (w0 : World) (j k : Nat) (W : World) : Prop where
  out : ∃ v, Boxed W (s + 2) 27 v ∧ W.ownsRow (s + 1) 3 1 v k ((xs.take k).map (Value.int .i64)) ∧ ∀ g, v.ownBlock = some g → g = s + 1 ∨ N ≤ g
  most : Boxed W s 3 (.int .i64 most)
  que : QAt W c room (xs.drop j) shut
  box : Boxed W (s + 3) 24 (.pointer (some ⟨c + 1, 0, none⟩))
  turn : Turn (Of c) w0 W
  size : N ≤ W.heap.size
theorem TI.grown {s N most c room : Nat} {xs : List Int} {shut : Bool} {w0 : World} {j k : Nat} {X Y : World} {row : Option Nat} (hs : s + 4 ≤ N) (hc : c + 1 < s) (h0 : w0.heap.size = s)
    (h : TI s N most c room xs shut w0 j k X) (hg : X.grownBy Y row) (hr : ∀ r, row = some r → N ≤ r ∧ ∃ o : Obj, X.heap[r]? = some o ∧ o.isCells = false) : TI s N most c room xs shut w0 j k Y := by
  have hne : ∀ i, i < N → some i ≠ row := fun i hi e => by have := (hr i e.symm).1; omega
  obtain ⟨v, hv, hrow, hb⟩ := h.out
  obtain ⟨s', r', hch⟩ := h.que.chan
  have hsz := h.size
  refine ⟨⟨v, hv.kept hg (hne _ (by omega)), hrow.kept hg ?_, hb⟩, h.most.kept hg (hne _ (by omega)), ⟨⟨s', r', (hg.block _ (by omega) (hne _ (by omega))).trans hch⟩, (hg.block _ (by omega) (hne _ (by omega))).trans h.que.box, h.que.fits, h.que.most⟩, h.box.kept hg (hne _ (by omega)),
    ⟨hg.os.trans h.turn.os, hg.tape.trans h.turn.tape, hg.output.trans h.turn.output, Nat.le_trans h.turn.size hg.size, fun i hi hS => (hg.block i (by have := h.turn.size; omega) (hne _ (by omega))).trans (h.turn.block i hi hS)⟩, Nat.le_trans h.size hg.size⟩
  rcases hrow.2 with ⟨rfl, _⟩ | ⟨g, cap, cur, rfl, _, hgb, _⟩
  · exact .inl rfl
  · refine .inr fun e' => ?_
    obtain ⟨_, o, ho, hcc⟩ := hr g (by simpa [Value.ownBlock] using e'.symm)
    rw [hgb] at ho; cases ho; cases hcc
theorem TI.own (s N most c room : Nat) (xs : List Int) (shut : Bool) (w0 : World) (f : Nat → Nat) (hs : s + 4 ≤ N) (hc : c + 1 < s) (h0 : w0.heap.size = s) : OwnFrom N (fun k => TI s N most c room xs shut w0 (f k) k) :=
  fun k X Y row h hg hr => h.grown hs hc h0 hg hr
theorem TI.got {s N most c room : Nat} {xs : List Int} {shut : Bool} {w0 : World} {j k : Nat} {X Y : World} (hs : s + 4 ≤ N) (hc : c + 1 < s) (h0 : w0.heap.size = s)
    (h : TI s N most c room xs shut w0 j k X) (q : QAt Y c room (xs.drop (j + 1)) shut) (t : Turn (Of c) X Y) : TI s N most c room xs shut w0 (j + 1) k Y := by
  have hsz := h.size
  have hof : ∀ i, s ≤ i → ¬ Of c i := fun i hi e => by rcases e with e | e <;> omega
  have hk : ∀ {i t v}, s ≤ i → Boxed X i t v → Boxed Y i t v := fun {i t' v} hi hb => (t.block i hb.lt (hof i hi)).trans hb
  obtain ⟨v, hv, hrow, hb⟩ := h.out
  refine ⟨⟨v, hk (by omega) hv, ?_, hb⟩, hk (by omega) h.most, q, hk (by omega) h.box, h.turn.trans t, Nat.le_trans h.size t.size⟩
  refine ⟨hrow.1, ?_⟩
  rcases hrow.2 with ⟨rfl, e⟩ | ⟨g, cap, cur, rfl, hg, hgb, rest⟩
  · exact .inl ⟨rfl, e⟩
  · exact .inr ⟨g, cap, cur, rfl, hg, (t.block g (lt_of_block hgb) (hof g (by omega))).trans hgb, rest⟩
theorem TI.append {s N most c room k : Nat} {xs : List Int} {shut : Bool} {w0 W w1 : World} {x : Int} {v v' : Value} {tmp : Obj} (hs : s + 4 ≤ N) (hc : c + 1 < s) (h0 : w0.heap.size = s) (hx : xs[k]? = some x)
    (h : TI s N most c room xs shut w0 (k + 1) k W) (hv : Boxed W (s + 2) 27 v) (hrow : W.ownsRow (s + 1) 3 1 v k ((xs.take k).map (Value.int .i64))) (hg : ∀ g, v.ownBlock = some g → g = s + 1 ∨ N ≤ g)
    (hown' : w1.ownsRow (s + 1) 3 1 v' (k + 1) ((xs.take k).map (Value.int .i64) ++ [.int .i64 x])) (hgrow : (W.alloc tmp).grownBy w1 v.ownBlock) (hat : v'.ownBlock = v.ownBlock ∨ v'.ownBlock = some (W.alloc tmp).heap.size) :
    Boxed w1 (s + 2) 27 v ∧ Boxed (w1.setCell ⟨s + 2, 0, none⟩ v') (s + 2) 27 v' ∧ Boxed (w1.setCell ⟨s + 2, 0, none⟩ v') s 3 (.int .i64 most) ∧ KeepsFrom N W (w1.setCell ⟨s + 2, 0, none⟩ v') ∧
      TI s N most c room xs shut w0 (k + 1) (k + 1) (w1.setCell ⟨s + 2, 0, none⟩ v') := by
  have hsz := h.size
  obtain ⟨hv1, hv2, hr2, hk2, hb2⟩ := hv.appended (by decide) hrow (by omega) (by omega) hown' hgrow
  have hne : ∀ i, i < N → i ≠ s + 1 → some i ≠ v.ownBlock := fun i hi hi1 e => by rcases hg i e.symm with h | h <;> omega
  have same : ∀ i, i < N → i ≠ s + 1 → i ≠ s + 2 → (w1.setCell ⟨s + 2, 0, none⟩ v').heap[i]? = W.heap[i]? := fun i hi h1 h2 => by
    rw [Below.heap_setCell _ _ _ _ (by show i ≠ s + 2; omega), hgrow.block i (by rw [World.size_alloc]; omega) (hne i hi h1), Below.heap_alloc _ _ _ (by omega)]
  have hm2 : Boxed (w1.setCell ⟨s + 2, 0, none⟩ v') s 3 (.int .i64 most) := (same s (by omega) (by omega) (by omega)).trans h.most
  obtain ⟨s', r', hch⟩ := h.que.chan
  refine ⟨hv1, hv2, hm2, hk2.from N, ⟨v', hv2, ?_, ?_⟩, hm2, ⟨⟨s', r', (same c (by omega) (by omega) (by omega)).trans hch⟩, (same (c + 1) (by omega) (by omega) (by omega)).trans h.que.box, h.que.fits, h.que.most⟩,
    (same (s + 3) (by omega) (by omega) (by omega)).trans h.box, ⟨hb2.os.trans h.turn.os, hb2.tape.trans h.turn.tape, hb2.output.trans h.turn.output, Nat.le_trans h.turn.size hb2.size, fun i hi hS => (same i (by omega) (by omega) (by omega)).trans (h.turn.block i hi hS)⟩, Nat.le_trans h.size hb2.size⟩
  · obtain ⟨hk, hxk⟩ := List.getElem?_eq_some_iff.1 hx
    rw [List.take_succ_eq_append_getElem hk, hxk, List.map_append]
    exact hr2
  · intro g e
    rcases hat with h' | h'
    · exact hg g (by rw [← h']; exact e)
    · rw [h', World.size_alloc] at e; cases e; right; omega

theorem heap_four (w : World) (o1 o2 o3 o4 : Obj) :
    ((((w.alloc o1).alloc o2).alloc o3).alloc o4).heap[w.heap.size]? = some o1 ∧ ((((w.alloc o1).alloc o2).alloc o3).alloc o4).heap[w.heap.size + 1]? = some o2 ∧
    ((((w.alloc o1).alloc o2).alloc o3).alloc o4).heap[w.heap.size + 2]? = some o3 ∧ ((((w.alloc o1).alloc o2).alloc o3).alloc o4).heap[w.heap.size + 3]? = some o4 := by
  have a1 := World.alloc_heap_new w o1
  have a2 := World.alloc_heap_new (w.alloc o1) o2
  have a3 := World.alloc_heap_new ((w.alloc o1).alloc o2) o3
  have a4 := World.alloc_heap_new (((w.alloc o1).alloc o2).alloc o3) o4
  simp only [World.size_alloc] at a2 a3 a4
  refine ⟨?_, ?_, ?_, a4⟩
  · rw [Below.heap_alloc _ _ _ (by rw [World.size_alloc, World.size_alloc, World.size_alloc]; omega), Below.heap_alloc _ _ _ (by rw [World.size_alloc, World.size_alloc]; omega), Below.heap_alloc _ _ _ (by rw [World.size_alloc]; omega)]; exact a1
  · rw [Below.heap_alloc _ _ _ (by rw [World.size_alloc, World.size_alloc, World.size_alloc]; omega), Below.heap_alloc _ _ _ (by rw [World.size_alloc, World.size_alloc]; omega)]; exact a2
  · rw [Below.heap_alloc _ _ _ (by rw [World.size_alloc, World.size_alloc, World.size_alloc]; omega)]; exact a3

set_option maxRecDepth 100000 in
set_option maxHeartbeats 1000000 in
theorem taken_in (m : Nat) (hm : 3 ≤ m) (c room : Nat) (xs : List Int) (shut : Bool) (q : Nat) (hq : 1 ≤ q) (hq2 : q ≤ 5000) (w : World) (h : QAt w c room xs shut) :
    CallsIn Fence.wide m Try.prog 20 #[.pointer (some ⟨c + 1, 0, none⟩), .int .i64 q] w fun e W' =>
      ∃ v, e = .returned v ∧ W'.ownsRow w.heap.size 3 1 v (xs.take q).length ((xs.take q).map (Value.int .i64)) ∧ QAt W' c room (xs.drop q) shut ∧ Turn (Of c) w W' := by
  have h1 : 1 ≤ m := by omega
  obtain ⟨i0, hi, hz0, hz1, hz2⟩ := info_parts info_int
  refine callsIn_of_wp_marks Try.func20 rfl trivial ?_ rfl
  simp only [Try.ntmps20, List.size_toArray, List.length_cons, List.length_nil, Nat.reduceAdd, Nat.reduceSub, Array.replicate_succ, Array.replicate_zero, List.push_toArray, List.append_toArray, List.nil_append, List.cons_append]
  gi_wp2_with (refine ⟨trivial, ?_⟩; gi_at_call 39; refine (callsIn_wide.2 (all_any _ _)).mono ?_; rintro e w' ⟨rfl, rfl⟩)
  obtain ⟨s, hs⟩ : ∃ s, s = w.heap.size := ⟨_, rfl⟩
  obtain ⟨f0, f1, f2, f3⟩ := heap_four w (.cells #[.int .i64 q] 3) (.cells #[] 3) (.cells #[.slice (some ⟨w.heap.size + 1, 0, none⟩) 0 0] 27) (.cells #[.pointer (some ⟨c + 1, 0, none⟩)] 24)
  have hcs : c + 1 < s := by rw [hs]; exact h.lt
  have hb0 : ∀ o1 o2 o3 o4, Below w.heap.size w ((((w.alloc o1).alloc o2).alloc o3).alloc o4) := fun o1 o2 o3 o4 => (((((Below.refl _ w).alloc (Nat.le_refl _) _).alloc (by simp) _).alloc (by simp; omega) _).alloc (by simp; omega) _)
  have hbz := hb0 (.cells #[.int .i64 q] 3) (.cells #[] 3) (.cells #[.slice (some ⟨w.heap.size + 1, 0, none⟩) 0 0] 27) (.cells #[.pointer (some ⟨c + 1, 0, none⟩)] 24)
  clear hb0
  obtain ⟨W0, hW0⟩ : ∃ W0, W0 = (((w.alloc (.cells #[.int .i64 q] 3)).alloc (.cells #[] 3)).alloc (.cells #[.slice (some ⟨w.heap.size + 1, 0, none⟩) 0 0] 27)).alloc (.cells #[.pointer (some ⟨c + 1, 0, none⟩)] 24) := ⟨_, rfl⟩
  have hz : W0.heap.size = s + 4 := by rw [hW0, hs]; simp
  rw [← hW0] at f0 f1 f2 f3 hbz ⊢
  rw [← hs] at f0 f1 f2 f3 hbz ⊢
  clear hW0
  have row0 : W0.ownsRow (s + 1) 3 1 (.slice (some ⟨s + 1, 0, none⟩) 0 0) 0 [] := ⟨by simp, .inr ⟨s + 1, 0, #[], rfl, Nat.le_refl _, f1, by simp, by simp [maxLen], by simp, by simp⟩⟩
  have hT0 : TI s (s + 4) q c room xs shut w 0 0 W0 := ⟨⟨_, f2, by simpa using row0, fun g e => .inl (by simpa [Value.ownBlock] using e.symm)⟩, f0, by simpa using h.below hbz hcs, f3, Turn.of_below (by rw [← hs]; exact hbz), by omega⟩
  have S0 : w.heap.size = s := hs.symm
  clear f0 f1 f2 f3 row0 hbz hs
  have HS := Lib.hid S0
  have HZ := Lib.hid hz
  clear S0 hz
  refine range_all (n := m) (by omega) c (s + 3) room xs shut rfl rfl (by rw [HZ.out]; omega)
    (fun k W => TI s (s + 4) q c room xs shut w k k W ∧ k < q) (fun k W => TI s (s + 4) q c room xs shut w (k + 1) k W ∧ k < q) (fun c' k W => c' = .exit 0 ∧ TI s (s + 4) q c room xs shut w k k W ∧ k = q)
    (fun k X Y row h' hg hr => ⟨h'.1.grown (by omega) hcs HS.out hg (by rw [HZ.out] at hr; exact hr), h'.2⟩)
    (fun k X Y row h' hg hr => ⟨h'.1.grown (by omega) hcs HS.out hg (by rw [HZ.out] at hr; exact hr), h'.2⟩)
    (fun c' k X Y row h' hg hr => ⟨h'.1, h'.2.1.grown (by omega) hcs HS.out hg (by rw [HZ.out] at hr; exact hr), h'.2.2⟩)
    ⟨hT0, by omega⟩ (fun k W _ h' => ⟨h'.1.que, h'.1.box.cell⟩) (fun k W W' _ h' hq' ht' _ => ⟨h'.1.got (by omega) hcs HS.out hq' ht', h'.2⟩)
    (fun x => { tmps := #[.pointer (some ⟨c + 1, 0, none⟩), .int .i64 q, undef, .pointer (some ⟨s, 0, none⟩), .slice none 0 0, .pointer (some ⟨s + 1 + 1, 0, none⟩), .int .i64 x, .slice (some ⟨s + 1, 0, none⟩) 0 0, .pointer (some ⟨c + 1, 0, none⟩),
      .func (.func 49) #[] #[.pointer (some ⟨s + 1 + 1 + 1, 0, none⟩)], .int .i64 x, undef, undef, undef, undef, undef, undef, undef, undef, undef], defers := [] })
    ?assign ?body ?done ?stop
  case assign =>
    intro l x W K hK
    gi_wp2
    exact hK
  case body =>
    rintro l k x W hkx hx ⟨hT, hkq⟩
    obtain ⟨v, hv, hrow, hg⟩ := hT.out
    have hc := hv.cell
    have hmc := hT.most.cell
    have HT := Lib.hid hT
    have HX := Lib.hid hx
    clear hT hx
    by_cases hfull : k + 1 = q
    · have ht : ((k : Int) + 1 == (q : Int)) = true := by simp; omega
      have HF := Lib.hid hfull
      clear hfull
      gi_wp2_with (gi_at_builtin; refine wpListIn_append_own_at _ rfl _ _ 27 rfl (s + 1) 3 i0 (.int .i64 0) 1 8 Try.underlying27 hi hz0 hz1 hz2 rfl (by decide) _ _ _ rfl (hrow.alloc _) ⟨W.heap.size, 0, none⟩ 1 1 [.int .i64 x] rfl rfl (cell_one_new _ _ _) (by simp [Value.oneCell']) (by unfold maxLen; omega) (by omega) (by simp; have := HT.out.size; omega) ?_; intro v' w1 hown' hgrow _ hat; obtain ⟨hv1, hv2, hm2, hk2, hT2⟩ := HT.out.append (by omega) hcs HS.out HX.out hv hrow hg hown' hgrow hat; obtain ⟨g', cap', rfl⟩ := ownsRow_succ hown'; have hc1 := hv1.cell; have hz1' := hv1.frozen; have hc2 := hv2.cell; have hm2c := hm2.cell; have HTT := Lib.hid hT2; clear hT2 hown' hgrow hat hv1 hv2 hm2)
      exact ⟨by rw [HZ.out]; exact hk2, rfl, HTT.out, HF.out⟩
    · have ht : ((k : Int) + 1 == (q : Int)) = false := by simp; omega
      have HF := Lib.hid hfull
      clear hfull
      gi_wp2_with (gi_at_builtin; refine wpListIn_append_own_at _ rfl _ _ 27 rfl (s + 1) 3 i0 (.int .i64 0) 1 8 Try.underlying27 hi hz0 hz1 hz2 rfl (by decide) _ _ _ rfl (hrow.alloc _) ⟨W.heap.size, 0, none⟩ 1 1 [.int .i64 x] rfl rfl (cell_one_new _ _ _) (by simp [Value.oneCell']) (by unfold maxLen; omega) (by omega) (by simp; have := HT.out.size; omega) ?_; intro v' w1 hown' hgrow _ hat; obtain ⟨hv1, hv2, hm2, hk2, hT2⟩ := HT.out.append (by omega) hcs HS.out HX.out hv hrow hg hown' hgrow hat; obtain ⟨g', cap', rfl⟩ := ownsRow_succ hown'; have hc1 := hv1.cell; have hz1' := hv1.frozen; have hc2 := hv2.cell; have hm2c := hm2.cell; have HTT := Lib.hid hT2; clear hT2 hown' hgrow hat hv1 hv2 hm2)
      exact ⟨by rw [HZ.out]; exact hk2, HTT.out, by have := HF.out; omega⟩
  case done =>
    rintro D W hD ⟨hT, hkq⟩ hK
    obtain ⟨v, hv, hrow, hg⟩ := hT.out
    have hc := hv.cell
    have HT := Lib.hid hT
    clear hT
    gi_wp2
    refine ⟨by simp, .inl ⟨_, _, rfl, run_takeDeferred hK, ?_⟩⟩
    have hT := HT.out.grown (Y := _) (by omega) hcs HS.out (grownBy_putObj' W D (.deferred none)) (fun r e => by cases e; exact ⟨by rw [← HZ.out]; exact hD, _, hK, rfl⟩)
    refine ⟨_, results_tmp rfl _ _ _, v, rfl, ?_, ?_, ?_⟩
    · rw [List.take_of_length_le (by omega)]
      rw [List.take_of_length_le (Nat.le_refl _)] at hrow
      exact ownsRow_base (ownsRow_putObj hrow _ hK rfl) (by rw [HS.out]; omega)
    · have := hT.que
      rw [List.drop_length] at this
      rw [List.drop_of_length_le (by omega)]
      exact this
    · exact hT.turn
  case stop =>
    rintro D c' k W hD hkx ⟨rfl, hT, rfl⟩ hK
    obtain ⟨v, hv, hrow, hg⟩ := hT.out
    have hc := hv.cell
    have HT := Lib.hid hT
    clear hT
    gi_wp2
    refine ⟨by simp, .inl ⟨_, _, rfl, run_takeDeferred hK, ?_⟩⟩
    have hT := HT.out.grown (Y := _) (by omega) hcs HS.out (grownBy_putObj' W D (.deferred none)) (fun r e => by cases e; exact ⟨by rw [← HZ.out]; exact hD, _, hK, rfl⟩)
    refine ⟨_, results_tmp rfl _ _ _, v, rfl, ?_, hT.que, hT.turn⟩
    rw [show (xs.take k).length = k by simp; omega]
    exact ownsRow_base (ownsRow_putObj hrow _ hK rfl) (by rw [HS.out]; omega)
/-- What is taken, as far as is asked for. -/
theorem taken_any (c room : Nat) (xs : List Int) (shut : Bool) (q : Nat) (hq : 1 ≤ q) (hq2 : q ≤ 5000) (w : World) (h : QAt w c room xs shut) :
    Calls Try.prog 20 #[.pointer (some ⟨c + 1, 0, none⟩), .int .i64 q] w fun e W' =>
      ∃ v, e = .returned v ∧ W'.ownsRow w.heap.size 3 1 v (xs.take q).length ((xs.take q).map (Value.int .i64)) ∧ QAt W' c room (xs.drop q) shut ∧ Turn (Of c) w W' :=
  callsIn_wide.1 (taken_in 3 (Nat.le_refl _) c room xs shut q hq hq2 w h)
end Go.Proofs.Ytndhhpiklaffoaa.Mail
