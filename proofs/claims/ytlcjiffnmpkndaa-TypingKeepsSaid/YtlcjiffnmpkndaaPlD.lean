/-
  Contract of Fill of package plane.
-/
import Derived.Test.YtlcjiffnmpkndaaPlC
namespace Go.Proofs.Ytlcjiffnmpkndaa.Pl
open Go.RowKit Go.Shelf Base
attribute [local go_sem] Oper.semAt_some
set_option linter.unusedVariables false
set_option linter.unusedSimpArgs false

/-- A block of cells lies as it lay, where a block that is no cells is turned. -/
theorem cells_kept {W W' : World} {row : Option Nat} {k : Nat} {cs : Array Value} {t : TypeId} {fz : Nat × Nat} (h : W.heap[k]? = some (.cells cs t fz)) (hg : W.grownBy W' row) (hr : ∀ r, row = some r → ∃ o : Obj, W.heap[r]? = some o ∧ o.isCells = false) : W'.heap[k]? = W.heap[k]? := by
  refine hg.block k (lt_of_block h) (fun e => ?_)
  obtain ⟨o, ho, hc⟩ := hr k e.symm
  rw [h] at ho; cases ho; cases hc
theorem PlAt.blocks {W : World} {b g : Nat} {r c cur : Int} {L : List Cl} (h : PlAt W b g r c cur L) : ∃ A B, W.heap[b]? = some (.cells A 106 (0, 0)) ∧ W.heap[g]? = some (.cells B 58 (0, 0)) := by
  obtain ⟨⟨cap, h1, h2⟩, _⟩ := h
  obtain ⟨B, h3⟩ := own_block h2
  exact ⟨_, B, h1, h3⟩
theorem PlAt.grown {W W' : World} {row : Option Nat} {b g : Nat} {r c cur : Int} {L : List Cl} (h : PlAt W b g r c cur L) (hg : W.grownBy W' row) (hr : ∀ r, row = some r → ∃ o : Obj, W.heap[r]? = some o ∧ o.isCells = false) : PlAt W' b g r c cur L := by
  obtain ⟨A, B, h1, h2⟩ := h.blocks
  exact h.keep hg.size (cells_kept h1 hg hr) (cells_kept h2 hg hr)

theorem betw_length (n a b : Int) (hn : n ≤ 4096) : (betw n a b).length ≤ 4096 := by
  unfold betw
  split
  · next h =>
    have := (many_bd n a b h).2
    rw [first_length]; omega
  · simp
theorem betw_stops2 (m : Nat) (hm : 1 ≤ m) (bf bc bt bs : Nat) (a n b r c : Int) (hn : Hid (cells r c = n)) (w : World) (hI : BetIter w.heap.size w bf bc bt bs a n b r c) :
    SeqStopsK Fence.wide m Try.prog 139 #[.pointer (some ⟨bf, 0, none⟩), .pointer (some ⟨bc, 0, none⟩), .pointer (some ⟨bt, 0, none⟩), .pointer (some ⟨bs, 0, none⟩)] (fun x : Int => #[Value.int .i64 x]) (Keep4 bf bc bt bs) (fun ys => ys = betw n a b) (fun pre => pre <+: betw n a b) (betw n a b).length w := fun l J Jx W hW hJ hJx hY h0 => by
  cases hin : inn n a b with
  | false =>
    refine (betw_none m hm l w.heap.size bf bc bt bs a n b r c hin J W (hI.below hW) h0).mono ?_
    rintro e W' ⟨hv, hj⟩
    exact ⟨hv, .inl ⟨[], by unfold betw; rw [hin]; rfl, hj⟩⟩
  | true =>
    have hl : (betw n a b).length = many n a b := by unfold betw; rw [if_pos hin, first_length]
    rw [hl] at hY
    exact betw_stops m hm bf bc bt bs a n b r c hn w hI l J Jx W hW hJ hJx hY h0

/-- What the loop of Fill knows. -/
structure FI (w : World) (b g : Nat) (r c cur : Int) (L : List Cl) (x : Cl) (pre : List Int) (W : World) : Prop where
  pl : PlAt W b g r c cur (fillL L pre x)
  b0 : W.heap[w.heap.size]? = some (.cells #[.pointer (some ⟨b, 0, none⟩)] 27 (0, 0))
  b1 : W.heap[w.heap.size + 1]? = some (.cells #[.int .u8 x.b, .bool x.ge, .bool x.st, .int .u8 x.li, .int .u8 x.co] 58 (0, 0))
  b2 : W.heap[w.heap.size + 2]? = some (.cells #[.int .i64 pre.length] 3 (0, 0))
  tn : Turn (At g) w W
  lb : b < w.heap.size
  lg : g < w.heap.size
section
variable {w : World} {b g : Nat} {r c cur : Int} {L : List Cl} {x : Cl} {pre : List Int} {W W' : World}
theorem FI.own (B : Nat) (hB : w.heap.size ≤ B) : OwnFrom B (FI w b g r c cur L x) := by
  intro s X Y row h hg hr
  have hr' : ∀ r, row = some r → ∃ o : Obj, X.heap[r]? = some o ∧ o.isCells = false := fun r e => (hr r e).2
  exact ⟨h.pl.grown hg hr', (cells_kept h.b0 hg hr').trans h.b0, (cells_kept h.b1 hg hr').trans h.b1, (cells_kept h.b2 hg hr').trans h.b2, h.tn.grown hg (fun k e => .inl (by have := (hr k e).1; omega)), h.lb, h.lg⟩
theorem FI.step (h : FI w b g r c cur L x pre W) (p : Int) (hp : PlAt W' b g r c cur (setL (fillL L pre x) p x)) (t : Turn (At g) W W') :
    FI w b g r c cur L x (pre ++ [p]) (W'.setCell ⟨w.heap.size + 2, 0, none⟩ (.int .i64 ((pre.length : Int) + 1))) ∧ Turn (Or2 (At g) (At (w.heap.size + 2))) W (W'.setCell ⟨w.heap.size + 2, 0, none⟩ (.int .i64 ((pre.length : Int) + 1))) := by
  have hb := h.lb
  have hg := h.lg
  have n0 : ¬ At g w.heap.size := by unfold At; omega
  have n1 : ¬ At g (w.heap.size + 1) := by unfold At; omega
  have n2 : ¬ At g (w.heap.size + 2) := by unfold At; omega
  have c0 := (t.block _ (lt_of_block h.b0) n0).trans h.b0
  have c1 := (t.block _ (lt_of_block h.b1) n1).trans h.b1
  have c2 := (t.block _ (lt_of_block h.b2) n2).trans h.b2
  have ts := turn_set W' (w.heap.size + 2) 0 (.int .i64 ((pre.length : Int) + 1))
  refine ⟨⟨?_, ?_, ?_, ?_, ?_, hb, hg⟩, (t.mono fun k hk => .inl hk).trans (ts.mono fun k hk => .inr hk)⟩
  · rw [fillL_snoc]
    exact hp.turn ts (by unfold At; omega) (by unfold At; omega)
  · exact (ts.block _ (lt_of_block c0) (by unfold At; omega)).trans c0
  · exact (ts.block _ (lt_of_block c1) (by unfold At; omega)).trans c1
  · rw [heap_set c2 0 _]
    simp
  · have ht2 : Turn (fun k => k = g ∨ w.heap.size ≤ k) w (W'.setCell ⟨w.heap.size + 2, 0, none⟩ (.int .i64 ((pre.length : Int) + 1))) := (((h.tn.trans t).mono fun k hk => .inl hk)).trans (ts.mono fun k hk => .inr (by rw [show k = w.heap.size + 2 from hk]; omega))
    exact ⟨ht2.os, ht2.tape, ht2.output, ht2.size, fun k hk hn => ht2.block k hk (by rintro (e | e); exact hn e; omega)⟩
theorem keeps_of_turn {S : Nat → Prop} {B : Nat} (t : Turn S W W') (hS : ∀ k, S k → k < B) : KeepsFrom B W W' :=
  ⟨t.size, fun k o hk ho _ => (t.block k (lt_of_block ho) (fun h => by have := hS k h; omega)).trans ho⟩
theorem keep4_of_turn {S : Nat → Prop} {bf bc bt bs : Nat} (t : Turn S W W') (h1 : bf < W.heap.size ∧ ¬ S bf) (h2 : bc < W.heap.size ∧ ¬ S bc) (h3 : bt < W.heap.size ∧ ¬ S bt) (h4 : bs < W.heap.size ∧ ¬ S bs) : Keep4 bf bc bt bs W W' :=
  ⟨t.size, fun k hk => by rcases hk with rfl | rfl | rfl | rfl; exact t.block _ h1.1 h1.2; exact t.block _ h2.1 h2.2; exact t.block _ h3.1 h3.2; exact t.block _ h4.1 h4.2⟩
end
set_option maxRecDepth 100000 in
set_option maxHeartbeats 2000000 in
theorem fill_in {w : World} {b g : Nat} {r c cur : Int} {L : List Cl} (h : PlAt w b g r c cur L) (a z : Int) (x : Cl) :
    CallsIn Fence.wide 3 Try.prog 126 #[.pointer (some ⟨b, 0, none⟩), .int .i64 a, .int .i64 z, x.val] w fun e W => e = .returned (.int .i64 (betw L.length a z).length) ∧ PlAt W b g r c cur (fillL L (betw L.length a z) x) ∧ Turn (At g) w W := by
  have hlb := h.lt
  have hlg := h.ltg
  have hn : Hid (cells r c = L.length) := h.size
  have hm := h.most
  have HH := Lib.hid h
  obtain ⟨W0, hW0⟩ : ∃ W0, W0 = ((w.alloc (.cells #[.pointer (some ⟨b, 0, none⟩)] 27)).alloc (.cells #[.int .u8 x.b, .bool x.ge, .bool x.st, .int .u8 x.li, .int .u8 x.co] 58)).alloc (.cells #[.int .i64 0] 3) := ⟨_, rfl⟩
  have h0 : FI w b g r c cur L x [] W0 := by
    rw [hW0]
    have e0 := heap_alloc_new w (.cells #[.pointer (some ⟨b, 0, none⟩)] 27)
    have e1 := heap_alloc_new (w.alloc (.cells #[.pointer (some ⟨b, 0, none⟩)] 27)) (.cells #[.int .u8 x.b, .bool x.ge, .bool x.st, .int .u8 x.li, .int .u8 x.co] 58)
    have e2 := heap_alloc_new ((w.alloc (.cells #[.pointer (some ⟨b, 0, none⟩)] 27)).alloc (.cells #[.int .u8 x.b, .bool x.ge, .bool x.st, .int .u8 x.li, .int .u8 x.co] 58)) (.cells #[.int .i64 0] 3)
    simp only [World.size_alloc] at e1 e2
    refine ⟨((h.alloc _).alloc _).alloc _, ?_, ?_, e2, ?_, hlb, hlg⟩
    · rw [Below.heap_alloc _ _ _ (by simp; omega), Below.heap_alloc _ _ _ (by simp)]; exact e0
    · rw [Below.heap_alloc _ _ _ (by simp)]; exact e1
    · exact Turn.of_below (((below_alloc w _).alloc (by simp) _).alloc (by simp; omega) _)
  have hsz0 : W0.heap.size = w.heap.size + 3 := by rw [hW0]; simp
  have p0 : W0.cell? ⟨w.heap.size, 0, none⟩ = some (.pointer (some ⟨b, 0, none⟩)) := by simp [World.cell?, h0.b0]
  have HW0 := Lib.hid hW0.symm
  have H0 := Lib.hid h0
  clear hW0 h h0
  refine callsIn_of_wp_marks Try.func126 rfl trivial ?_ rfl
  simp only [Try.ntmps126, List.size_toArray, List.length_cons, List.length_nil, Nat.reduceAdd, Nat.reduceSub, Array.replicate_succ, Array.replicate_zero, List.push_toArray, List.append_toArray, List.nil_append, List.cons_append]
  gi_wp2_with fail
  rw [HW0.out]
  gi_wp2_with fail
  refine ⟨trivial, ?_⟩
  refine (callsIn_wide.2 (size_any (show PlAt W0 b g r c cur L from H0.out.pl))).mono ?_
  rintro e W1 ⟨rfl, hb1⟩
  have hsz1 := hb1.size
  have H1 := Lib.hid (FI.own W0.heap.size (by omega) [] W0 W1 none H0.out (grown_of_below hb1) (fun _ e => by cases e))
  clear hb1
  gi_wp2_with fail
  refine ⟨trivial, ?_⟩
  refine (callsIn_wide.2 (between_any _ _ _ _ _ _ hn)).mono ?_
  rintro e W2 ⟨B, rfl, hI, hb2, hBB⟩
  have hsz2 := hb2.size
  have H2 := Lib.hid (FI.own W1.heap.size (by omega) [] W1 W2 none H1.out (grown_of_below hb2) (fun _ e => by cases e))
  have h4 := hI.1
  have HI := Lib.hid hI
  clear hI hb2 p0 H0 H1
  gi_wp2_with fail
  have hin : Hid (cells r c = (L.length : Nat)) := hn
  have hsB : Hid (w.heap.size + 3 ≤ W1.heap.size ∧ W1.heap.size ≤ W2.heap.size ∧ W1.heap.size ≤ B) := ⟨by omega, hsz2, hBB⟩
  refine range_gen (α := Int) rfl (by omega) (gf := 139) rfl trivial (enters_of Try.func139 (by kernel_rfl) rfl)
    (SeqO.of_stops (betw_stops2 2 (by omega) _ _ _ _ a L.length z r c hn W2 HI.out) (fun h => h.1)) Keep4.trans ?hKb (Below.refl _ _) (fun _ => rfl)
    (FI w b g r c cur L x) (fun _ _ _ => False) (FI.own _ (by omega)) (fun _ _ _ _ _ h _ _ => h) H2.out
    (fun p a' _ => a' = { tmps := #[.pointer (some ⟨b, 0, none⟩), .int .i64 a, .int .i64 z, x.val, .pointer (some ⟨w.heap.size, 0, none⟩), undef, undef, .pointer (some ⟨w.heap.size + 1, 0, none⟩), .int .i64 0, .pointer (some ⟨w.heap.size + 1 + 1, 0, none⟩), .int .i64 p, .pointer (some ⟨b, 0, none⟩), .agg #[.int .i64 r, .int .i64 c], .int .i64 a, .int .i64 z, .func (.func 139) #[] #[.pointer (some ⟨W1.heap.size + 1, 0, none⟩), .pointer (some ⟨B, 0, none⟩), .pointer (some ⟨W1.heap.size + 2, 0, none⟩), .pointer (some ⟨W1.heap.size, 0, none⟩)], .int .i64 p, undef, undef, undef, undef, undef, undef, undef], defers := [] })
    (fun _ _ _ _ _ _ h _ _ => h) ?assign ?body ?done ?stop
  case hKb =>
    intro W o o' ho hc
    obtain ⟨h1, h2, h3, h5⟩ := h4
    refine ⟨(grownBy_putObj' W (W2.heap.size + 1) o').size, fun k hk => (grownBy_putObj' W (W2.heap.size + 1) o').block k ?_ ?_⟩
    · have := lt_of_block ho
      rcases hk with rfl | rfl | rfl | rfl <;> omega
    · intro e; cases e
      rcases hk with hk | hk | hk | hk <;> omega
  case assign =>
    intro l pre p W K hI' hK
    gi_wp2
    exact hK _ _ (KeepsFrom.refl _ _) (Keep4.refl _ _ _ _ _) hI' rfl
  case body =>
    rintro l pre p a' W hI' rfl hlt hWs
    rw [Nat.add_zero] at hWs
    have hlt' : (pre.length : Int) < 4096 := by have := betw_length L.length a z (by omega); omega
    clear hlt
    have q0 : W.cell? ⟨w.heap.size, 0, none⟩ = some (.pointer (some ⟨b, 0, none⟩)) := by simp [World.cell?, hI'.b0]
    have q1 : W.cell? ⟨w.heap.size + 1, 0, none⟩ = some (.int .u8 x.b) := by simp [World.cell?, hI'.b1]
    have q2 : W.cell? ⟨w.heap.size + 1, 1, none⟩ = some (.bool x.ge) := by simp [World.cell?, hI'.b1]
    have q3 : W.cell? ⟨w.heap.size + 1, 2, none⟩ = some (.bool x.st) := by simp [World.cell?, hI'.b1]
    have q4 : W.cell? ⟨w.heap.size + 1, 3, none⟩ = some (.int .u8 x.li) := by simp [World.cell?, hI'.b1]
    have q5 : W.cell? ⟨w.heap.size + 1, 4, none⟩ = some (.int .u8 x.co) := by simp [World.cell?, hI'.b1]
    have HI' := Lib.hid hI'
    clear hI'
    gi_wp2_with fail
    refine ⟨trivial, ?_⟩
    refine (CallsIn.inRound l (callsIn_wide.2 (set_any HI'.out.pl p x))).mono ?_
    rintro e W3 ⟨rfl, hp, ht⟩
    have hst := HI'.out.step p hp ht
    have r2 : W3.cell? ⟨w.heap.size + 1 + 1, 0, none⟩ = some (.int .i64 pre.length) := by
      have := (ht.block _ (lt_of_block HI'.out.b2) (by have := HI'.out.lg; unfold At; omega)).trans HI'.out.b2
      simp [World.cell?, this]
    have r3 : W3.frozen? ⟨w.heap.size + 1 + 1, 0, none⟩ = false := by
      have := (ht.block _ (lt_of_block HI'.out.b2) (by have := HI'.out.lg; unfold At; omega)).trans HI'.out.b2
      simp [World.frozen?, this]
    have HST := Lib.hid hst
    clear hst hp ht q0 q1 q2 q3 q4 q5
    gi_wp2
    obtain ⟨hf, ht⟩ := HST.out
    obtain ⟨g1, g2, g3, g5⟩ := h4
    have hlg' := HI'.out.lg
    have hW := HI'.out.tn.size
    have k1 : ∀ k, W1.heap.size ≤ k → ¬ Or2 (At g) (At (w.heap.size + 2)) k := by
      intro k hk; unfold Or2 At; have := hsB.out.1; omega
    refine ⟨keeps_of_turn ht (fun k hk => by have := hsB.out; rcases hk with hk | hk <;> unfold At at hk <;> omega), keep4_of_turn ht ⟨by omega, k1 _ (by omega)⟩ ⟨by omega, k1 _ hsB.out.2.2⟩ ⟨by omega, k1 _ (by omega)⟩ ⟨by omega, k1 _ (by omega)⟩, hf⟩
  case done =>
    rintro D ys W hD rfl hI' hK
    have q2 : W.cell? ⟨w.heap.size + 1 + 1, 0, none⟩ = some (.int .i64 (betw L.length a z).length) := by simp [World.cell?, hI'.b2]
    have HI' := Lib.hid hI'
    clear hI'
    gi_wp2
    refine ⟨by simp, .inl ⟨_, _, rfl, run_takeDeferred hK, ?_⟩⟩
    refine ⟨_, results_tmp rfl _ _ _, rfl, ?_, ?_⟩
    · exact HI'.out.pl.grown (grownBy_putObj' W D (.deferred none)) (fun r e => by cases e; exact ⟨_, hK, rfl⟩)
    · exact HI'.out.tn.grown (grownBy_putObj' W D (.deferred none)) (fun k e => by cases e; left; omega)
  case stop =>
    rintro D c pre W _ _ h _
    exact h.elim
theorem fill_any {w : World} {b g : Nat} {r c cur : Int} {L : List Cl} (h : PlAt w b g r c cur L) (a z : Int) (x : Cl) :
    Calls Try.prog 126 #[.pointer (some ⟨b, 0, none⟩), .int .i64 a, .int .i64 z, x.val] w fun e W => e = .returned (.int .i64 (betw L.length a z).length) ∧ PlAt W b g r c cur (fillL L (betw L.length a z) x) ∧ Turn (At g) w W :=
  callsIn_wide.1 (fill_in h a z x)
end Go.Proofs.Ytlcjiffnmpkndaa.Pl
