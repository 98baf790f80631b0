/-
  Open of package wipe.
-/
import Derived.Test.YtgjhboikfbafcaaWpQ
namespace Go.Proofs.Ytgjhboikfbafcaa.Pl
open Go.RowKit Go.Shelf Base
attribute [local go_sem] Oper.semAt_some
set_option linter.unusedVariables false
set_option linter.unusedSimpArgs false

theorem region_wide {P : Program} {L : List Oper} {id n : Nat} {Q : Exit → Act → World → Prop} {a : Act} {w : World} (hm : P.follows .mixedOrders = true)
    (h : wpAnyIn Fence.wide n P .any L.toArray Q L.toArray.size (Array.replicate L.toArray.size false) a w.drew) : (Code.region id L.toArray true).wpIn Fence.wide n P Q a w :=
  wpIn_region_any hm h
/-- What Open holds between two fields: m0 cells were gone ahead of them. -/
structure OpI (w : World) (b g : Nat) (r c cur : Int) (L : List Cl) (m0 : Nat) (pre : List Fd) (W : World) : Prop where
  pl : PlAt W b g r c cur (opP L pre)
  b0 : W.heap[w.heap.size]? = some (.cells #[.pointer (some ⟨b, 0, none⟩)] 26 (0, 0))
  b1 : W.heap[w.heap.size + 1]? = some (.cells #[.int .i64 ((m0 + opN L.length pre : Nat) : Int)] 3 (0, 0))
  tn : Turn (At g) w W
  lb : b < w.heap.size
  lg : g < w.heap.size
/-- Which cell is the cursor's behind Open. -/
def curO (L : List Cl) (cur : Int) : Int := if hasL (openL L) (homeL (openL L)) then homeL (openL L) else cur
def openN (L : List Cl) : Nat := (if befL L 0 = -1 then (betw L.length 0 0).length else 0) + opN L.length (allL (open0 L))
section
variable {w : World} {b g : Nat} {r c cur : Int} {L : List Cl} {m0 : Nat} {pre : List Fd} {W W' : World}
theorem OpI.own (B : Nat) (hB : w.heap.size ≤ B) : OwnFrom B (OpI w b g r c cur L m0) := by
  intro s X Y row h hg hr
  have hr' : ∀ r, row = some r → ∃ o : Obj, X.heap[r]? = some o ∧ o.isCells = false := fun r e => (hr r e).2
  exact ⟨h.pl.grown hg hr', (cells_kept h.b0 hg hr').trans h.b0, (cells_kept h.b1 hg hr').trans h.b1, h.tn.grown hg (fun k e => .inl (by have := (hr k e).1; omega)), h.lb, h.lg⟩
theorem OpI.below (h : OpI w b g r c cur L m0 pre W) (t : Below W.heap.size W W') : OpI w b g r c cur L m0 pre W' :=
  ⟨h.pl.below t, (t.block _ (lt_of_block h.b0)).trans h.b0, (t.block _ (lt_of_block h.b1)).trans h.b1, h.tn.trans (Turn.of_below t), h.lb, h.lg⟩
/-- Behind a call that turned the plane's cells. -/
theorem OpI.call (h : OpI w b g r c cur L m0 pre W) (t : Turn (At g) W.drew W') : W'.cell? ⟨w.heap.size, 0, none⟩ = some (.pointer (some ⟨b, 0, none⟩)) ∧ W'.cell? ⟨w.heap.size + 1, 0, none⟩ = some (.int .i64 ((m0 + opN L.length pre : Nat) : Int)) ∧ W'.frozen? ⟨w.heap.size + 1, 0, none⟩ = false ∧ W'.frozen? ⟨w.heap.size, 0, none⟩ = false := by
  have hl := h.lg
  have e0 := (t.block (w.heap.size) (lt_of_block (w := W) h.b0) (by unfold At; omega)).trans h.b0
  have e1 := (t.block (w.heap.size + 1) (lt_of_block (w := W) h.b1) (by unfold At; omega)).trans h.b1
  exact ⟨by simp [World.cell?, e0], by simp [World.cell?, e1], by simp [World.frozen?, e1], by simp [World.frozen?, e0]⟩
/-- The count is stored. -/
theorem OpI.mid (h : OpI w b g r c cur L m0 pre W) {M : List Cl} (hp : PlAt W' b g r c cur M) (t : Turn (At g) W.drew W') (x : Int) :
    PlAt (W'.setCell ⟨w.heap.size + 1, 0, none⟩ (.int .i64 x)) b g r c cur M ∧ (W'.setCell ⟨w.heap.size + 1, 0, none⟩ (.int .i64 x)).cell? ⟨w.heap.size, 0, none⟩ = some (.pointer (some ⟨b, 0, none⟩)) ∧
    (W'.setCell ⟨w.heap.size + 1, 0, none⟩ (.int .i64 x)).heap[w.heap.size]? = some (.cells #[.pointer (some ⟨b, 0, none⟩)] 26 (0, 0)) ∧
    (W'.setCell ⟨w.heap.size + 1, 0, none⟩ (.int .i64 x)).heap[w.heap.size + 1]? = some (.cells #[.int .i64 x] 3 (0, 0)) ∧
    (∀ B o, w.heap.size + 1 < B → B ≠ g → W.heap[B]? = some o → (W'.setCell ⟨w.heap.size + 1, 0, none⟩ (.int .i64 x)).heap[B]? = some o) ∧ Turn (Or2 (At g) (At (w.heap.size + 1))) W (W'.setCell ⟨w.heap.size + 1, 0, none⟩ (.int .i64 x)) := by
  have hl := h.lg
  have hlb := h.lb
  have e0 := (t.block (w.heap.size) (lt_of_block (w := W) h.b0) (by unfold At; omega)).trans h.b0
  have e1 := (t.block (w.heap.size + 1) (lt_of_block (w := W) h.b1) (by unfold At; omega)).trans h.b1
  have ts := turn_set W' (w.heap.size + 1) 0 (.int .i64 x)
  have f0 := (ts.block _ (lt_of_block e0) (by unfold At; omega)).trans e0
  have t' : Turn (At g) W W' := ⟨t.os, t.tape, t.output, t.size, t.block⟩
  refine ⟨hp.turn ts (by unfold At; omega) (by unfold At; omega), by simp [World.cell?, f0], f0, by rw [heap_set e1 0 _]; simp, fun B o hB hg ho => ?_, (t'.mono fun k hk => .inl hk).trans (ts.mono fun k hk => .inr hk)⟩
  have := (t'.block B (lt_of_block ho) hg).trans ho
  exact (ts.block B (lt_of_block this) (by unfold At; omega)).trans this
theorem OpI.step (h : OpI w b g r c cur L m0 pre W) (f : Fd) {x : Int} {n kn : Nat} (hpr : Attr.prot f.a = false)
    (hs : W'.heap[w.heap.size]? = some (.cells #[.pointer (some ⟨b, 0, none⟩)] 26 (0, 0)) ∧ W'.heap[w.heap.size + 1]? = some (.cells #[.int .i64 x] 3 (0, 0)) ∧ Turn (Or2 (At g) (At (w.heap.size + 1))) W W')
    {W5 : World} (hp : PlAt W5 b g r c cur (modL (clrL (opP L pre) (insP n f)) f.s false)) (t : Turn (At g) W' W5) (hn : (opP L pre).length = n) (hk : kn = (insP n f).length) (hc : x = ((m0 + opN n pre + kn : Nat) : Int) ∧ n = L.length) :
    OpI w b g r c cur L m0 (pre ++ [f]) W5 ∧ Turn (Or2 (At g) (At (w.heap.size + 1))) W W5 := by
  have hl := h.lg
  obtain ⟨e0, e1, t1⟩ := hs
  obtain ⟨hx, hnL⟩ := hc
  have t2 : Turn (Or2 (At g) (At (w.heap.size + 1))) W W5 := t1.trans (t.mono fun k hk => .inl hk)
  have hst : opS (opP L pre) f = modL (clrL (opP L pre) (insP n f)) f.s false := by unfold opS; rw [hpr, hn]; rfl
  refine ⟨⟨by rw [opP_snoc, hst]; exact hp, (t.block _ (lt_of_block e0) (by unfold At; omega)).trans e0, ?_, ?_, h.lb, hl⟩, t2⟩
  · rw [(t.block _ (lt_of_block e1) (by unfold At; omega)).trans e1, hx, opN_snoc, hpr, ← hnL, ← hk]
    simp only [Bool.false_eq_true, if_false, Nat.add_assoc]
  · have ht2 : Turn (fun k => k = g ∨ w.heap.size ≤ k) w W5 := (h.tn.mono fun k hk => .inl hk).trans (t2.mono fun k hk => by rcases hk with hk | hk; exact .inl hk; exact .inr (by rw [show k = w.heap.size + 1 from hk]; omega))
    exact ⟨ht2.os, ht2.tape, ht2.output, ht2.size, fun k hk hn => ht2.block k hk (by rintro (e | e); exact hn e; omega)⟩
theorem OpI.same (h : OpI w b g r c cur L m0 pre W) (f : Fd) (hpr : Attr.prot f.a = true) : OpI w b g r c cur L m0 (pre ++ [f]) W := by
  have hst : opS (opP L pre) f = opP L pre := by unfold opS; rw [hpr]; rfl
  refine ⟨by rw [opP_snoc, hst]; exact h.pl, h.b0, ?_, h.tn, h.lb, h.lg⟩
  rw [opN_snoc, hpr, if_pos rfl]
  exact h.b1
/-- Behind a quiet call ahead of the end. -/
theorem OpI.quiet (h : OpI w b g r c cur L m0 pre W) (t : Below W.drew.heap.size W.drew W') : W'.cell? ⟨w.heap.size, 0, none⟩ = some (.pointer (some ⟨b, 0, none⟩)) ∧ PlAt W' b g r c cur (opP L pre) ∧ (OpI w b g r c cur L m0 pre W' ∧ ∀ k : Nat, k < W.heap.size → W'.heap[k]? = W.heap[k]?) := by
  have h' : OpI w b g r c cur L m0 pre W' := h.below ⟨t.os, t.tape, t.output, t.size, t.block⟩
  exact ⟨by simp [World.cell?, h'.b0], h'.pl, h', fun k hk => t.block k hk⟩
theorem op_count (hu : OpI w b g r c cur L m0 pre W) (t : Turn (At b) W.drew W') : W'.cell? ⟨w.heap.size + 1, 0, none⟩ = some (.int .i64 ((m0 + opN L.length pre : Nat) : Int)) := by
  have hl := hu.lb
  have e1 := (t.block (w.heap.size + 1) (lt_of_block (w := W) hu.b1) (by unfold At; omega)).trans hu.b1
  simp [World.cell?, e1]
theorem op_count' (hu : OpI w b g r c cur L m0 pre W) (t : Turn (At b) W W') : W'.cell? ⟨w.heap.size + 1, 0, none⟩ = some (.int .i64 ((m0 + opN L.length pre : Nat) : Int)) := op_count hu ⟨t.os, t.tape, t.output, t.size, t.block⟩
theorem op_turn (hu : OpI w b g r c cur L m0 pre W) (t : Turn (At b) W W') : Turn (Or2 (At b) (At g)) w W' :=
  (hu.tn.mono fun k hk => .inr hk).trans (t.mono fun k hk => .inl hk)
theorem op_kept {D : Nat} {o : Obj} {A : World} (hp : PlAt A b g r c cur L) (hk : ∀ k : Nat, k < A.heap.size → W.heap[k]? = A.heap[k]?) (t : Turn (At b) W W') (hs : A.heap.size ≤ W.heap.size) (hD : A.heap[D]? = some o) (ho : o.isCells = false) : W'.heap[D]? = some o := by
  obtain ⟨cap, h1, h2⟩ := hp.head
  have hDb : D ≠ b := by rintro rfl; rw [h1] at hD; cases hD; cases ho
  have := lt_of_block hD
  exact (t.block D (by omega) hDb).trans ((hk D this).trans hD)
end
theorem begF_k (L : List Cl) (hn : 1 ≤ L.length) (hm : L.length ≤ 4096) (s : Int) : (begF L s).k ≤ 9223372036854775807 := by
  have := begF_bd hn s; omega
/-- What a field's cells are, where the plane is as Open has it. -/
theorem clr_ins {L : List Cl} (hB : BoL L) {pre pre' : List Fd} {i : Nat} (hi : i < L.length) (hs : (atL L i).st = true) {n : Nat} (hn : L.length = n) : fillL (opP L pre) (insP n (begF (opP L pre') i)) c0 = clrL (opP L pre) (insP n (begF (opP L pre') i)) := by
  subst hn
  have k1 := opP_keeps L hB pre
  have k2 := opP_keeps L hB pre'
  rw [insP_st k2.1 k2.2.1]
  refine (clrL_fill _ _ (fun p hp => ?_)).symm
  rw [k1.1 p]
  exact ins_no (by omega) (by omega) hs p hp
set_option maxRecDepth 100000 in
set_option maxHeartbeats 4000000 in
theorem open_fmt {w : World} {b g : Nat} {r c cur : Int} {L : List Cl} (h : PlAt w b g r c cur L) (hbo : BoL L) (hb : befL L 0 ≠ -1) :
    CallsIn Fence.wide 3 Try.prog 38 #[.pointer (some ⟨b, 0, none⟩)] w fun e W => e = .returned (.int .i64 ((openN L : Nat) : Int)) ∧ PlAt W b g r c (curO L cur) (openL L) ∧ Turn (Or2 (At b) (At g)) w W := by
  have hlb := h.lt
  have hlg := h.ltg
  have hm := h.most
  have hpo := h.pos
  obtain ⟨W0, hW0⟩ : ∃ W0, W0 = (w.alloc (.cells #[.pointer (some ⟨b, 0, none⟩)] 26)).alloc (.cells #[.int .i64 0] 3) := ⟨_, rfl⟩
  have h0 : OpI w b g r c cur L 0 [] W0 := by
    rw [hW0]
    have e0 := heap_alloc_new w (.cells #[.pointer (some ⟨b, 0, none⟩)] 26)
    have e1 := heap_alloc_new (w.alloc (.cells #[.pointer (some ⟨b, 0, none⟩)] 26)) (.cells #[.int .i64 0] 3)
    simp only [World.size_alloc] at e1
    refine ⟨(h.alloc _).alloc _, ?_, e1, ?_, hlb, hlg⟩
    · rw [Below.heap_alloc _ _ _ (by simp)]; exact e0
    · exact Turn.of_below ((below_alloc w _).alloc (by simp) _)
  have hsz0 : W0.heap.size = w.heap.size + 2 := by rw [hW0]; simp
  have p0 : W0.cell? ⟨w.heap.size, 0, none⟩ = some (.pointer (some ⟨b, 0, none⟩)) := by simp [World.cell?, h0.b0]
  have hfm : (befL L 0 != -1) = true := by simpa using hb
  have hfmt := formatted_any h0.pl
  rw [show opP L [] = L from rfl, hfm] at hfmt
  have HFM := Lib.hid hfmt
  have HB0 := Lib.hid hb
  have HBO := Lib.hid hbo
  have HW0 := Lib.hid hW0.symm
  have H0 := Lib.hid h0
  clear hW0 h h0 hbo hb hfm hfmt
  refine callsIn_of_wp_marks Try.func38 rfl trivial ?_ rfl
  simp only [Try.ntmps38, List.size_toArray, List.length_cons, List.length_nil, Nat.reduceAdd, Nat.reduceSub, Array.replicate_succ, Array.replicate_zero, List.push_toArray, List.append_toArray, List.nil_append, List.cons_append]
  gi_wp2_with fail
  rw [HW0.out]
  gi_wp2_with (refine ⟨trivial, ?_⟩; (gi_at_call 11; (with_reducible refine (callsIn_wide.2 HFM.out).mono ?_); rintro e w1 ⟨rfl, hb1⟩; have H1 := Lib.hid (H0.out.below hb1); have hs1 := hb1.size; clear hb1; have q0 : w1.cell? ⟨w.heap.size, 0, none⟩ = some (.pointer (some ⟨b, 0, none⟩)) := (by simp [World.cell?, H1.out.b0]); have q9 : w1.frozen? ⟨w.heap.size + 1, 0, none⟩ = false := (by simp [World.frozen?, H1.out.b1])))
  have HL1 := Lib.hid (show open0 L = L by unfold open0; rw [if_neg HB0.out])
  have HM0 := Lib.hid (show openN L = 0 + opN L.length (allL L) by unfold openN; rw [HL1.out, if_neg HB0.out])
  obtain ⟨L1, hL1⟩ : ∃ L1, L1 = L := ⟨_, rfl⟩
  obtain ⟨m0, hm0⟩ : ∃ m0 : Nat, m0 = 0 := ⟨_, rfl⟩
  have hml : m0 ≤ 4096 := by omega
  have HEQ := Lib.hid (show open0 L = L1 ∧ openN L = m0 + opN L1.length (allL L1) by rw [hL1, hm0]; exact ⟨HL1.out, HM0.out⟩)
  have HB1 := Lib.hid (show BoL L1 by rw [hL1]; exact HBO.out)
  obtain ⟨w2, hw2⟩ : ∃ w2, w2 = w1 := ⟨_, rfl⟩
  have H2 := Lib.hid (show OpI w b g r c cur L1 m0 [] w2 by rw [hL1, hm0, hw2]; exact H1.out)
  have hs2 : w.heap.size + 2 ≤ w2.heap.size := by rw [hw2]; omega
  have hnl : L1.length ≤ 4096 ∧ 1 ≤ L1.length := by rw [hL1]; exact ⟨hm, hpo⟩
  rw [← hw2]
  clear hw2 hL1 hm0 H0 H1 HL1 HM0 q0 q9 hs1 p0 HFM HW0
  refine ⟨trivial, ?_⟩
  refine (callsIn_wide.2 (all_any w2 b)).mono ?_
  rintro e W1 ⟨rfl, hI, hb1, hsz1⟩
  have H3 := Lib.hid (H2.out.below hb1)
  have HKE := Lib.hid (opP_keeps L1 HB1.out)
  obtain ⟨N1, hN1⟩ : ∃ N1, N1 = w2.heap.size := ⟨_, rfl⟩
  rw [← hN1] at hI hs2 hsz1 ⊢
  have hseq := all_seq 2 (by omega) N1 b g r c cur L1 (opP L1) (fun pre i => (HKE.out pre).1 i) (fun pre => (HKE.out pre).2.1) (fun pre => (HKE.out pre).2.2) W1 (by omega) hI
  have HSQ := Lib.hid hseq
  have hw1n : N1 < W1.heap.size := by omega
  clear hI hseq hb1 hN1 H2
  gi_wp2_with fail
  refine range_ask (α := Fd) rfl (by omega) (gf := 83) rfl trivial (enters_of Try.func83 (by kernel_rfl) rfl) HSQ.out Keep2.trans ?hKb (Below.refl _ _) (fun _ => rfl)
    (OpI w b g r c cur L1 m0) (fun _ W h => h.pl) (fun _ _ _ => False) (OpI.own _ (by omega)) (fun _ _ _ _ _ h _ _ => h) H3.out
    (fun f a' W => ∃ B, w.heap.size + 1 < B ∧ W.heap[B]? = some (.cells #[.int .i64 f.s, .int .i64 f.k, .int .u8 f.a] 39 (0, 0)) ∧ a' = { tmps := #[.pointer (some ⟨b, 0, none⟩), .pointer (some ⟨w.heap.size, 0, none⟩), .int .i64 0, .pointer (some ⟨w.heap.size + 1, 0, none⟩), .pointer (some ⟨B, 0, none⟩), .pointer (some ⟨b, 0, none⟩), .bool true, .bool false, undef, undef, undef, .pointer (some ⟨b, 0, none⟩), .func (.func 83) #[] #[.pointer (some ⟨N1, 0, none⟩)], f.val, undef, undef, undef, undef, undef, undef, undef, undef, undef, undef, undef, undef, undef, undef, undef, undef, undef, undef], defers := [] })
    ?hAx ?assign ?body ?done ?stop
  case hKb =>
    intro W o o' ho hc
    have := lt_of_block ho
    exact Keep2.put W o' (by omega) (by omega) (by omega) (by omega)
  case hAx =>
    rintro f a' s X Y row ⟨B, h1, h2, h3⟩ hg hr
    exact ⟨B, h1, (cells_kept h2 hg (fun r e => (hr r e).2)).trans h2, h3⟩
  case assign =>
    intro l pre f W K hsp hWs hI' hK
    rw [Nat.add_zero] at hWs
    have HI' := Lib.hid hI'
    clear hI'
    gi_wp2
    have hb := below_alloc W (.cells #[.int .i64 f.s, .int .i64 f.k, .int .u8 f.a] 39)
    refine hK _ _ (keepsB hb) (Keep2.turn (S := fun _ => False) (Turn.of_below hb) (by omega) (by omega) (by simp) (by simp)) (OpI.own W.heap.size (by have := HI'.out.tn.size; omega) pre W _ none HI'.out (grown_of_below hb) (fun _ e => by cases e)) ⟨W.heap.size, lt_of_block HI'.out.b1, heap_alloc_new _ _, ?_⟩
    rfl
  case body =>
    rintro l pre f a' W hsp hI' ⟨B, hB1, hB2, rfl⟩ hlt hWs
    rw [Nat.add_zero] at hWs
    have hmem : f ∈ allK L1 (opP L1) L1.length := hsp.subset (by simp)
    obtain ⟨i, pre', hi1, hi2, hi3⟩ := mem_allK _ _ hmem
    have hfa := begF_a (opP L1 pre') (HKE.out pre').2.2 i
    have hfk := begF_k (opP L1 pre') (by rw [(HKE.out pre').2.1]; exact hnl.2) (by rw [(HKE.out pre').2.1]; exact hnl.1) i
    have hclr := clr_ins HB1.out (pre := pre) (pre' := pre') hi1 hi2 rfl
    rw [← hi3] at hfa hfk hclr
    have hn := Nat.lt_of_lt_of_le hlt (allK_most L1 (opP L1) L1.length)
    have hmo := opN_most L1.length pre
    have hil := insP_len L1.length f
    obtain ⟨n, hnn⟩ : ∃ n, n = L1.length := ⟨_, rfl⟩
    have hbg : pre.length * L1.length ≤ 16777216 := (Nat.mul_le_mul (show pre.length ≤ 4096 by omega) hnl.1)
    obtain ⟨fs, fk, fa⟩ := f
    simp only at hB2 hfa hfk
    rw [← hnn] at hclr hmo hil hbg
    obtain ⟨kn, hkn⟩ : ∃ kn, kn = (insP n ⟨fs, fk, fa⟩).length := ⟨_, rfl⟩
    rw [← hkn] at hil
    obtain ⟨cn, hcn⟩ : ∃ cn, cn = m0 + opN n pre := ⟨_, rfl⟩
    have hcn1 : cn + kn ≤ 16800000 := by omega
    have q0 : W.cell? ⟨w.heap.size, 0, none⟩ = some (.pointer (some ⟨b, 0, none⟩)) := by simp [World.cell?, hI'.b0]
    have q1 : W.cell? ⟨B, 0, none⟩ = some (.int .i64 fs) := by simp [World.cell?, hB2]
    have q2 : W.cell? ⟨B, 1, none⟩ = some (.int .i64 fk) := by simp [World.cell?, hB2]
    have q3 : W.cell? ⟨B, 2, none⟩ = some (.int .u8 fa) := by simp [World.cell?, hB2]
    have q4 : W.cell? ⟨w.heap.size + 1, 0, none⟩ = some (.int .i64 (cn : Int)) := by rw [hcn, hnn]; simp [World.cell?, hI'.b1]
    have hwr : IntKind.i64.wrap ((cn : Int) + (kn : Int)) = (cn : Int) + (kn : Int) := by simp [IntKind.wrap, IntKind.bits]; omega
    have hblt := lt_of_block hB2
    have hBg : B ≠ g := by have := hI'.lg; omega
    have HBL := Lib.hid (And.intro hB1 hBg)
    have HB2 := Lib.hid hB2
    have HI' := Lib.hid hI'
    have HLN := Lib.hid (show (opP L1 pre).length = n by rw [hnn]; exact (HKE.out pre).2.1)
    have HCL := Lib.hid hclr
    have HFK := Lib.hid hfk
    have HKN := Lib.hid hkn
    have HNN := Lib.hid hnn
    have HCNN := Lib.hid hcn
    have HCN := Lib.hid (show ((cn : Int) + (kn : Int)) = ((m0 + opN n pre + kn : Nat) : Int) ∧ n = L1.length from ⟨by rw [hcn]; push_cast; rfl, hnn⟩)
    have HBC := Lib.hid (show BoL (clrL (opP L1 pre) (insP n ⟨fs, fk, fa⟩)) from (clrL_keeps _ _ (HKE.out pre).2.2).2.2)
    have HB := Lib.hid (show ∀ W3 : World, Turn (At g) W.drew W3 → W3.heap[B]? = some (.cells #[.int .i64 fs, .int .i64 fk, .int .u8 fa] 39 (0, 0)) from fun W3 t => (t.block B hblt hBg).trans HB2.out)
    clear hsp hI' hmem hi3 hlt hB2 hclr hkn hnn hcn hmo hbg hfk
    cases hpr : Attr.prot fa with
    | true =>
      have HPR := Lib.hid hpr
      clear hpr
      gi_wp2_with (refine ⟨trivial, ?_⟩; gi_at_call 51; (with_reducible refine (CallsIn.inRound l (callsIn_wide.2 (protected_k fa _ hfa.1 hfa.2 true HPR.out))).mono ?_); rintro e w' ⟨rfl, rfl⟩)
      exact ⟨KeepsFrom.refl _ _, Keep2.refl _ _ _, HI'.out.same _ HPR.out⟩
    | false =>
      have HPR := Lib.hid hpr
      clear hpr
      gi_wp2_with (refine ⟨trivial, ?_⟩; gi_at_call 51; (with_reducible refine (CallsIn.inRound l (callsIn_wide.2 (protected_k fa _ hfa.1 hfa.2 false HPR.out))).mono ?_); rintro e w' ⟨rfl, rfl⟩)
      refine region_round (by kernel_rfl) (by kernel_rfl) ?_
      refine wpAnyIn_ready (rs := [0, 1, 2]) (by kernel_rfl) (by simp) (AllReadyIn.cons (o := { dst := some 18, op := Op.load 3 (Operand.tmp 3), type := 3, pos := "wipe.go:22", after := #[], guard := none }) rfl (fun K hK => ?_) (AllReadyIn.cons (o := { dst := some 19, op := Op.load 26 (Operand.tmp 1), type := 26, pos := "wipe.go:22", after := #[], guard := none }) rfl (fun K hK => ?_) (AllReadyIn.cons (o := { dst := some 20, op := Op.load 39 (Operand.tmp 4), type := 39, pos := "wipe.go:22", after := #[], guard := none }) rfl (fun K hK => ?_) AllReadyIn.nil)))
      · go_simp
        refine hK _ _ ?_
        clear hK K
        try simp only [Act.put, List.setIfInBounds_toArray, List.set_cons_zero, List.set_cons_succ]
        refine wpAnyIn_ready (rs := [1, 2]) (by kernel_rfl) (by simp) (AllReadyIn.cons (o := { dst := some 19, op := Op.load 26 (Operand.tmp 1), type := 26, pos := "wipe.go:22", after := #[], guard := none }) rfl (fun K hK => ?_) (AllReadyIn.cons (o := { dst := some 20, op := Op.load 39 (Operand.tmp 4), type := 39, pos := "wipe.go:22", after := #[], guard := none }) rfl (fun K hK => ?_) AllReadyIn.nil))
        · go_simp
          refine hK _ _ ?_
          clear hK K
          try simp only [Act.put, List.setIfInBounds_toArray, List.set_cons_zero, List.set_cons_succ]
          refine wpAnyIn_ready (rs := [2]) (by kernel_rfl) (by simp) (AllReadyIn.cons (o := { dst := some 20, op := Op.load 39 (Operand.tmp 4), type := 39, pos := "wipe.go:22", after := #[], guard := none }) rfl (fun K hK => ?_) AllReadyIn.nil)
          go_simp
          refine hK _ _ ?_
          clear hK K
          try simp only [Act.put, List.setIfInBounds_toArray, List.set_cons_zero, List.set_cons_succ]
          refine wpAnyIn_ready (rs := [3]) (by kernel_rfl) (by simp) (AllReadyIn.cons (o := { dst := some 21, op := Op.call { callee := Callee.value (Operand.func 43), args := #[Operand.tmp 19, Operand.tmp 20], argTypes := #[26, 39] }, type := 3, pos := "wipe.go:22", after := #[{ on := 1, ground := Ground.data }, { on := 2, ground := Ground.data }], guard := none }) rfl (fun K hK => ?_) AllReadyIn.nil)
          go_simp
          refine ⟨trivial, ?_⟩
          gi_at_call 43
          (refine (callsIn_wide.2 (winside_any HI'.out.pl.drew ⟨fs, fk, fa⟩ HFK.out)).mono ?_)
          rw [HLN.out]
          rintro e W3 ⟨rfl, hp3, ht3⟩
          rw [HCL.out] at hp3
          rw [← HKN.out]
          obtain ⟨r0, r1, r2, r3⟩ := HI'.out.call ht3
          rw [← HNN.out, ← HCNN.out] at r1
          have rB := HB.out W3 ht3
          have HP3 := Lib.hid hp3
          have HT3 := Lib.hid ht3
          clear hp3 ht3
          refine hK _ _ ?_
          clear hK K
          try simp only [Act.put, List.setIfInBounds_toArray, List.set_cons_zero, List.set_cons_succ]
          refine wpAnyIn_ready (rs := [4]) (by kernel_rfl) (by simp) (AllReadyIn.cons (o := { dst := some 22, op := Op.binOp BinOp.add 3 (Operand.tmp 18) (Operand.tmp 21) 3, type := 3, pos := "wipe.go:22", after := #[{ on := 0, ground := Ground.data }, { on := 3, ground := Ground.data }], guard := none }) rfl (fun K hK => ?_) AllReadyIn.nil)
          go_simp
          refine hK _ _ ?_
          clear hK K
          try simp only [Act.put, List.setIfInBounds_toArray, List.set_cons_zero, List.set_cons_succ]
          refine wpAnyIn_ready (rs := [5]) (by kernel_rfl) (by simp) (AllReadyIn.cons (o := { dst := none, op := Op.store 3 (Operand.tmp 3) (Operand.tmp 22), type := 0, pos := "wipe.go:22", after := #[{ on := 4, ground := Ground.data }, { on := 3, ground := Ground.chain }, { on := 0, ground := Ground.phase }, { on := 1, ground := Ground.phase }, { on := 2, ground := Ground.phase }, { on := 3, ground := Ground.phase }, { on := 4, ground := Ground.phase }], guard := none }) rfl (fun K hK => ?_) AllReadyIn.nil)
          go_simp
          refine hK _ _ ?_
          clear hK K
          try simp only [Act.put, List.setIfInBounds_toArray, List.set_cons_zero, List.set_cons_succ]
          refine wpAnyIn_done (by kernel_rfl) ?_ _
          obtain ⟨s0, s1, s2, s3, s4, s5⟩ := HI'.out.mid HP3.out HT3.out ((cn : Int) + (kn : Int))
          have sB := s4 B _ HBL.out.1 HBL.out.2 HB2.out
          obtain ⟨W4, hW4⟩ : ∃ W4, W4 = W3.setCell ⟨w.heap.size + 1, 0, none⟩ (.int .i64 ((cn : Int) + (kn : Int))) := ⟨_, rfl⟩
          rw [← hW4] at s0 s1 s2 s3 s4 s5 sB ⊢
          have HS := Lib.hid (And.intro s0 (And.intro s2 (And.intro s3 s5)))
          have t0 : W4.cell? ⟨B, 0, none⟩ = some (.int .i64 fs) := by simp [World.cell?, sB]
          clear s0 s2 s3 s4 s5 sB hW4 r0 r1 r2 r3 rB
          gi_wp2_with fail
          refine ⟨trivial, ?_⟩
          gi_at_call 75
          refine (CallsIn.inRound l (callsIn_wide.2 (wunmark_any HS.out.1 fs HBC.out))).mono ?_
          rintro e W5 ⟨⟨v, rfl⟩, hp5, ht5⟩
          have HS5 := Lib.hid (HI'.out.step ⟨fs, fk, fa⟩ HPR.out HS.out.2 hp5 ht5 HLN.out HKN.out HCN.out)
          clear hp5 ht5
          gi_wp2
          obtain ⟨hf, ht⟩ := HS5.out
          have hlg' := HI'.out.lg
          have hW := HI'.out.tn.size
          refine ⟨keeps_of_turn ht (fun k hk => by rcases hk with hk | hk <;> unfold At at hk <;> omega), Keep2.turn ht (by omega) (by omega) ?_ ?_, hf⟩
          · unfold Or2 At; omega
          · unfold Or2 At; omega
        · go_simp
          refine hK _ _ ?_
          clear hK K
          try simp only [Act.put, List.setIfInBounds_toArray, List.set_cons_zero, List.set_cons_succ]
          refine wpAnyIn_ready (rs := [1]) (by kernel_rfl) (by simp) (AllReadyIn.cons (o := { dst := some 19, op := Op.load 26 (Operand.tmp 1), type := 26, pos := "wipe.go:22", after := #[], guard := none }) rfl (fun K hK => ?_) AllReadyIn.nil)
          go_simp
          refine hK _ _ ?_
          clear hK K
          try simp only [Act.put, List.setIfInBounds_toArray, List.set_cons_zero, List.set_cons_succ]
          refine wpAnyIn_ready (rs := [3]) (by kernel_rfl) (by simp) (AllReadyIn.cons (o := { dst := some 21, op := Op.call { callee := Callee.value (Operand.func 43), args := #[Operand.tmp 19, Operand.tmp 20], argTypes := #[26, 39] }, type := 3, pos := "wipe.go:22", after := #[{ on := 1, ground := Ground.data }, { on := 2, ground := Ground.data }], guard := none }) rfl (fun K hK => ?_) AllReadyIn.nil)
          go_simp
          refine ⟨trivial, ?_⟩
          gi_at_call 43
          (refine (callsIn_wide.2 (winside_any HI'.out.pl.drew ⟨fs, fk, fa⟩ HFK.out)).mono ?_)
          rw [HLN.out]
          rintro e W3 ⟨rfl, hp3, ht3⟩
          rw [HCL.out] at hp3
          rw [← HKN.out]
          obtain ⟨r0, r1, r2, r3⟩ := HI'.out.call ht3
          rw [← HNN.out, ← HCNN.out] at r1
          have rB := HB.out W3 ht3
          have HP3 := Lib.hid hp3
          have HT3 := Lib.hid ht3
          clear hp3 ht3
          refine hK _ _ ?_
          clear hK K
          try simp only [Act.put, List.setIfInBounds_toArray, List.set_cons_zero, List.set_cons_succ]
          refine wpAnyIn_ready (rs := [4]) (by kernel_rfl) (by simp) (AllReadyIn.cons (o := { dst := some 22, op := Op.binOp BinOp.add 3 (Operand.tmp 18) (Operand.tmp 21) 3, type := 3, pos := "wipe.go:22", after := #[{ on := 0, ground := Ground.data }, { on := 3, ground := Ground.data }], guard := none }) rfl (fun K hK => ?_) AllReadyIn.nil)
          go_simp
          refine hK _ _ ?_
          clear hK K
          try simp only [Act.put, List.setIfInBounds_toArray, List.set_cons_zero, List.set_cons_succ]
          refine wpAnyIn_ready (rs := [5]) (by kernel_rfl) (by simp) (AllReadyIn.cons (o := { dst := none, op := Op.store 3 (Operand.tmp 3) (Operand.tmp 22), type := 0, pos := "wipe.go:22", after := #[{ on := 4, ground := Ground.data }, { on := 3, ground := Ground.chain }, { on := 0, ground := Ground.phase }, { on := 1, ground := Ground.phase }, { on := 2, ground := Ground.phase }, { on := 3, ground := Ground.phase }, { on := 4, ground := Ground.phase }], guard := none }) rfl (fun K hK => ?_) AllReadyIn.nil)
          go_simp
          refine hK _ _ ?_
          clear hK K
          try simp only [Act.put, List.setIfInBounds_toArray, List.set_cons_zero, List.set_cons_succ]
          refine wpAnyIn_done (by kernel_rfl) ?_ _
          obtain ⟨s0, s1, s2, s3, s4, s5⟩ := HI'.out.mid HP3.out HT3.out ((cn : Int) + (kn : Int))
          have sB := s4 B _ HBL.out.1 HBL.out.2 HB2.out
          obtain ⟨W4, hW4⟩ : ∃ W4, W4 = W3.setCell ⟨w.heap.size + 1, 0, none⟩ (.int .i64 ((cn : Int) + (kn : Int))) := ⟨_, rfl⟩
          rw [← hW4] at s0 s1 s2 s3 s4 s5 sB ⊢
          have HS := Lib.hid (And.intro s0 (And.intro s2 (And.intro s3 s5)))
          have t0 : W4.cell? ⟨B, 0, none⟩ = some (.int .i64 fs) := by simp [World.cell?, sB]
          clear s0 s2 s3 s4 s5 sB hW4 r0 r1 r2 r3 rB
          gi_wp2_with fail
          refine ⟨trivial, ?_⟩
          gi_at_call 75
          refine (CallsIn.inRound l (callsIn_wide.2 (wunmark_any HS.out.1 fs HBC.out))).mono ?_
          rintro e W5 ⟨⟨v, rfl⟩, hp5, ht5⟩
          have HS5 := Lib.hid (HI'.out.step ⟨fs, fk, fa⟩ HPR.out HS.out.2 hp5 ht5 HLN.out HKN.out HCN.out)
          clear hp5 ht5
          gi_wp2
          obtain ⟨hf, ht⟩ := HS5.out
          have hlg' := HI'.out.lg
          have hW := HI'.out.tn.size
          refine ⟨keeps_of_turn ht (fun k hk => by rcases hk with hk | hk <;> unfold At at hk <;> omega), Keep2.turn ht (by omega) (by omega) ?_ ?_, hf⟩
          · unfold Or2 At; omega
          · unfold Or2 At; omega
      · go_simp
        refine hK _ _ ?_
        clear hK K
        try simp only [Act.put, List.setIfInBounds_toArray, List.set_cons_zero, List.set_cons_succ]
        refine wpAnyIn_ready (rs := [0, 2]) (by kernel_rfl) (by simp) (AllReadyIn.cons (o := { dst := some 18, op := Op.load 3 (Operand.tmp 3), type := 3, pos := "wipe.go:22", after := #[], guard := none }) rfl (fun K hK => ?_) (AllReadyIn.cons (o := { dst := some 20, op := Op.load 39 (Operand.tmp 4), type := 39, pos := "wipe.go:22", after := #[], guard := none }) rfl (fun K hK => ?_) AllReadyIn.nil))
        · go_simp
          refine hK _ _ ?_
          clear hK K
          try simp only [Act.put, List.setIfInBounds_toArray, List.set_cons_zero, List.set_cons_succ]
          refine wpAnyIn_ready (rs := [2]) (by kernel_rfl) (by simp) (AllReadyIn.cons (o := { dst := some 20, op := Op.load 39 (Operand.tmp 4), type := 39, pos := "wipe.go:22", after := #[], guard := none }) rfl (fun K hK => ?_) AllReadyIn.nil)
          go_simp
          refine hK _ _ ?_
          clear hK K
          try simp only [Act.put, List.setIfInBounds_toArray, List.set_cons_zero, List.set_cons_succ]
          refine wpAnyIn_ready (rs := [3]) (by kernel_rfl) (by simp) (AllReadyIn.cons (o := { dst := some 21, op := Op.call { callee := Callee.value (Operand.func 43), args := #[Operand.tmp 19, Operand.tmp 20], argTypes := #[26, 39] }, type := 3, pos := "wipe.go:22", after := #[{ on := 1, ground := Ground.data }, { on := 2, ground := Ground.data }], guard := none }) rfl (fun K hK => ?_) AllReadyIn.nil)
          go_simp
          refine ⟨trivial, ?_⟩
          gi_at_call 43
          (refine (callsIn_wide.2 (winside_any HI'.out.pl.drew ⟨fs, fk, fa⟩ HFK.out)).mono ?_)
          rw [HLN.out]
          rintro e W3 ⟨rfl, hp3, ht3⟩
          rw [HCL.out] at hp3
          rw [← HKN.out]
          obtain ⟨r0, r1, r2, r3⟩ := HI'.out.call ht3
          rw [← HNN.out, ← HCNN.out] at r1
          have rB := HB.out W3 ht3
          have HP3 := Lib.hid hp3
          have HT3 := Lib.hid ht3
          clear hp3 ht3
          refine hK _ _ ?_
          clear hK K
          try simp only [Act.put, List.setIfInBounds_toArray, List.set_cons_zero, List.set_cons_succ]
          refine wpAnyIn_ready (rs := [4]) (by kernel_rfl) (by simp) (AllReadyIn.cons (o := { dst := some 22, op := Op.binOp BinOp.add 3 (Operand.tmp 18) (Operand.tmp 21) 3, type := 3, pos := "wipe.go:22", after := #[{ on := 0, ground := Ground.data }, { on := 3, ground := Ground.data }], guard := none }) rfl (fun K hK => ?_) AllReadyIn.nil)
          go_simp
          refine hK _ _ ?_
          clear hK K
          try simp only [Act.put, List.setIfInBounds_toArray, List.set_cons_zero, List.set_cons_succ]
          refine wpAnyIn_ready (rs := [5]) (by kernel_rfl) (by simp) (AllReadyIn.cons (o := { dst := none, op := Op.store 3 (Operand.tmp 3) (Operand.tmp 22), type := 0, pos := "wipe.go:22", after := #[{ on := 4, ground := Ground.data }, { on := 3, ground := Ground.chain }, { on := 0, ground := Ground.phase }, { on := 1, ground := Ground.phase }, { on := 2, ground := Ground.phase }, { on := 3, ground := Ground.phase }, { on := 4, ground := Ground.phase }], guard := none }) rfl (fun K hK => ?_) AllReadyIn.nil)
          go_simp
          refine hK _ _ ?_
          clear hK K
          try simp only [Act.put, List.setIfInBounds_toArray, List.set_cons_zero, List.set_cons_succ]
          refine wpAnyIn_done (by kernel_rfl) ?_ _
          obtain ⟨s0, s1, s2, s3, s4, s5⟩ := HI'.out.mid HP3.out HT3.out ((cn : Int) + (kn : Int))
          have sB := s4 B _ HBL.out.1 HBL.out.2 HB2.out
          obtain ⟨W4, hW4⟩ : ∃ W4, W4 = W3.setCell ⟨w.heap.size + 1, 0, none⟩ (.int .i64 ((cn : Int) + (kn : Int))) := ⟨_, rfl⟩
          rw [← hW4] at s0 s1 s2 s3 s4 s5 sB ⊢
          have HS := Lib.hid (And.intro s0 (And.intro s2 (And.intro s3 s5)))
          have t0 : W4.cell? ⟨B, 0, none⟩ = some (.int .i64 fs) := by simp [World.cell?, sB]
          clear s0 s2 s3 s4 s5 sB hW4 r0 r1 r2 r3 rB
          gi_wp2_with fail
          refine ⟨trivial, ?_⟩
          gi_at_call 75
          refine (CallsIn.inRound l (callsIn_wide.2 (wunmark_any HS.out.1 fs HBC.out))).mono ?_
          rintro e W5 ⟨⟨v, rfl⟩, hp5, ht5⟩
          have HS5 := Lib.hid (HI'.out.step ⟨fs, fk, fa⟩ HPR.out HS.out.2 hp5 ht5 HLN.out HKN.out HCN.out)
          clear hp5 ht5
          gi_wp2
          obtain ⟨hf, ht⟩ := HS5.out
          have hlg' := HI'.out.lg
          have hW := HI'.out.tn.size
          refine ⟨keeps_of_turn ht (fun k hk => by rcases hk with hk | hk <;> unfold At at hk <;> omega), Keep2.turn ht (by omega) (by omega) ?_ ?_, hf⟩
          · unfold Or2 At; omega
          · unfold Or2 At; omega
        · go_simp
          refine hK _ _ ?_
          clear hK K
          try simp only [Act.put, List.setIfInBounds_toArray, List.set_cons_zero, List.set_cons_succ]
          refine wpAnyIn_ready (rs := [0, 3]) (by kernel_rfl) (by simp) (AllReadyIn.cons (o := { dst := some 18, op := Op.load 3 (Operand.tmp 3), type := 3, pos := "wipe.go:22", after := #[], guard := none }) rfl (fun K hK => ?_) (AllReadyIn.cons (o := { dst := some 21, op := Op.call { callee := Callee.value (Operand.func 43), args := #[Operand.tmp 19, Operand.tmp 20], argTypes := #[26, 39] }, type := 3, pos := "wipe.go:22", after := #[{ on := 1, ground := Ground.data }, { on := 2, ground := Ground.data }], guard := none }) rfl (fun K hK => ?_) AllReadyIn.nil))
          · go_simp
            refine hK _ _ ?_
            clear hK K
            try simp only [Act.put, List.setIfInBounds_toArray, List.set_cons_zero, List.set_cons_succ]
            refine wpAnyIn_ready (rs := [3]) (by kernel_rfl) (by simp) (AllReadyIn.cons (o := { dst := some 21, op := Op.call { callee := Callee.value (Operand.func 43), args := #[Operand.tmp 19, Operand.tmp 20], argTypes := #[26, 39] }, type := 3, pos := "wipe.go:22", after := #[{ on := 1, ground := Ground.data }, { on := 2, ground := Ground.data }], guard := none }) rfl (fun K hK => ?_) AllReadyIn.nil)
            go_simp
            refine ⟨trivial, ?_⟩
            gi_at_call 43
            (refine (callsIn_wide.2 (winside_any HI'.out.pl.drew ⟨fs, fk, fa⟩ HFK.out)).mono ?_)
            rw [HLN.out]
            rintro e W3 ⟨rfl, hp3, ht3⟩
            rw [HCL.out] at hp3
            rw [← HKN.out]
            obtain ⟨r0, r1, r2, r3⟩ := HI'.out.call ht3
            rw [← HNN.out, ← HCNN.out] at r1
            have rB := HB.out W3 ht3
            have HP3 := Lib.hid hp3
            have HT3 := Lib.hid ht3
            clear hp3 ht3
            refine hK _ _ ?_
            clear hK K
            try simp only [Act.put, List.setIfInBounds_toArray, List.set_cons_zero, List.set_cons_succ]
            refine wpAnyIn_ready (rs := [4]) (by kernel_rfl) (by simp) (AllReadyIn.cons (o := { dst := some 22, op := Op.binOp BinOp.add 3 (Operand.tmp 18) (Operand.tmp 21) 3, type := 3, pos := "wipe.go:22", after := #[{ on := 0, ground := Ground.data }, { on := 3, ground := Ground.data }], guard := none }) rfl (fun K hK => ?_) AllReadyIn.nil)
            go_simp
            refine hK _ _ ?_
            clear hK K
            try simp only [Act.put, List.setIfInBounds_toArray, List.set_cons_zero, List.set_cons_succ]
            refine wpAnyIn_ready (rs := [5]) (by kernel_rfl) (by simp) (AllReadyIn.cons (o := { dst := none, op := Op.store 3 (Operand.tmp 3) (Operand.tmp 22), type := 0, pos := "wipe.go:22", after := #[{ on := 4, ground := Ground.data }, { on := 3, ground := Ground.chain }, { on := 0, ground := Ground.phase }, { on := 1, ground := Ground.phase }, { on := 2, ground := Ground.phase }, { on := 3, ground := Ground.phase }, { on := 4, ground := Ground.phase }], guard := none }) rfl (fun K hK => ?_) AllReadyIn.nil)
            go_simp
            refine hK _ _ ?_
            clear hK K
            try simp only [Act.put, List.setIfInBounds_toArray, List.set_cons_zero, List.set_cons_succ]
            refine wpAnyIn_done (by kernel_rfl) ?_ _
            obtain ⟨s0, s1, s2, s3, s4, s5⟩ := HI'.out.mid HP3.out HT3.out ((cn : Int) + (kn : Int))
            have sB := s4 B _ HBL.out.1 HBL.out.2 HB2.out
            obtain ⟨W4, hW4⟩ : ∃ W4, W4 = W3.setCell ⟨w.heap.size + 1, 0, none⟩ (.int .i64 ((cn : Int) + (kn : Int))) := ⟨_, rfl⟩
            rw [← hW4] at s0 s1 s2 s3 s4 s5 sB ⊢
            have HS := Lib.hid (And.intro s0 (And.intro s2 (And.intro s3 s5)))
            have t0 : W4.cell? ⟨B, 0, none⟩ = some (.int .i64 fs) := by simp [World.cell?, sB]
            clear s0 s2 s3 s4 s5 sB hW4 r0 r1 r2 r3 rB
            gi_wp2_with fail
            refine ⟨trivial, ?_⟩
            gi_at_call 75
            refine (CallsIn.inRound l (callsIn_wide.2 (wunmark_any HS.out.1 fs HBC.out))).mono ?_
            rintro e W5 ⟨⟨v, rfl⟩, hp5, ht5⟩
            have HS5 := Lib.hid (HI'.out.step ⟨fs, fk, fa⟩ HPR.out HS.out.2 hp5 ht5 HLN.out HKN.out HCN.out)
            clear hp5 ht5
            gi_wp2
            obtain ⟨hf, ht⟩ := HS5.out
            have hlg' := HI'.out.lg
            have hW := HI'.out.tn.size
            refine ⟨keeps_of_turn ht (fun k hk => by rcases hk with hk | hk <;> unfold At at hk <;> omega), Keep2.turn ht (by omega) (by omega) ?_ ?_, hf⟩
            · unfold Or2 At; omega
            · unfold Or2 At; omega
          · go_simp
            refine ⟨trivial, ?_⟩
            gi_at_call 43
            (refine (callsIn_wide.2 (winside_any HI'.out.pl.drew ⟨fs, fk, fa⟩ HFK.out)).mono ?_)
            rw [HLN.out]
            rintro e W3 ⟨rfl, hp3, ht3⟩
            rw [HCL.out] at hp3
            rw [← HKN.out]
            obtain ⟨r0, r1, r2, r3⟩ := HI'.out.call ht3
            rw [← HNN.out, ← HCNN.out] at r1
            have rB := HB.out W3 ht3
            have HP3 := Lib.hid hp3
            have HT3 := Lib.hid ht3
            clear hp3 ht3
            refine hK _ _ ?_
            clear hK K
            try simp only [Act.put, List.setIfInBounds_toArray, List.set_cons_zero, List.set_cons_succ]
            refine wpAnyIn_ready (rs := [0]) (by kernel_rfl) (by simp) (AllReadyIn.cons (o := { dst := some 18, op := Op.load 3 (Operand.tmp 3), type := 3, pos := "wipe.go:22", after := #[], guard := none }) rfl (fun K hK => ?_) AllReadyIn.nil)
            go_simp
            refine hK _ _ ?_
            clear hK K
            try simp only [Act.put, List.setIfInBounds_toArray, List.set_cons_zero, List.set_cons_succ]
            refine wpAnyIn_ready (rs := [4]) (by kernel_rfl) (by simp) (AllReadyIn.cons (o := { dst := some 22, op := Op.binOp BinOp.add 3 (Operand.tmp 18) (Operand.tmp 21) 3, type := 3, pos := "wipe.go:22", after := #[{ on := 0, ground := Ground.data }, { on := 3, ground := Ground.data }], guard := none }) rfl (fun K hK => ?_) AllReadyIn.nil)
            go_simp
            refine hK _ _ ?_
            clear hK K
            try simp only [Act.put, List.setIfInBounds_toArray, List.set_cons_zero, List.set_cons_succ]
            refine wpAnyIn_ready (rs := [5]) (by kernel_rfl) (by simp) (AllReadyIn.cons (o := { dst := none, op := Op.store 3 (Operand.tmp 3) (Operand.tmp 22), type := 0, pos := "wipe.go:22", after := #[{ on := 4, ground := Ground.data }, { on := 3, ground := Ground.chain }, { on := 0, ground := Ground.phase }, { on := 1, ground := Ground.phase }, { on := 2, ground := Ground.phase }, { on := 3, ground := Ground.phase }, { on := 4, ground := Ground.phase }], guard := none }) rfl (fun K hK => ?_) AllReadyIn.nil)
            go_simp
            refine hK _ _ ?_
            clear hK K
            try simp only [Act.put, List.setIfInBounds_toArray, List.set_cons_zero, List.set_cons_succ]
            refine wpAnyIn_done (by kernel_rfl) ?_ _
            obtain ⟨s0, s1, s2, s3, s4, s5⟩ := HI'.out.mid HP3.out HT3.out ((cn : Int) + (kn : Int))
            have sB := s4 B _ HBL.out.1 HBL.out.2 HB2.out
            obtain ⟨W4, hW4⟩ : ∃ W4, W4 = W3.setCell ⟨w.heap.size + 1, 0, none⟩ (.int .i64 ((cn : Int) + (kn : Int))) := ⟨_, rfl⟩
            rw [← hW4] at s0 s1 s2 s3 s4 s5 sB ⊢
            have HS := Lib.hid (And.intro s0 (And.intro s2 (And.intro s3 s5)))
            have t0 : W4.cell? ⟨B, 0, none⟩ = some (.int .i64 fs) := by simp [World.cell?, sB]
            clear s0 s2 s3 s4 s5 sB hW4 r0 r1 r2 r3 rB
            gi_wp2_with fail
            refine ⟨trivial, ?_⟩
            gi_at_call 75
            refine (CallsIn.inRound l (callsIn_wide.2 (wunmark_any HS.out.1 fs HBC.out))).mono ?_
            rintro e W5 ⟨⟨v, rfl⟩, hp5, ht5⟩
            have HS5 := Lib.hid (HI'.out.step ⟨fs, fk, fa⟩ HPR.out HS.out.2 hp5 ht5 HLN.out HKN.out HCN.out)
            clear hp5 ht5
            gi_wp2
            obtain ⟨hf, ht⟩ := HS5.out
            have hlg' := HI'.out.lg
            have hW := HI'.out.tn.size
            refine ⟨keeps_of_turn ht (fun k hk => by rcases hk with hk | hk <;> unfold At at hk <;> omega), Keep2.turn ht (by omega) (by omega) ?_ ?_, hf⟩
            · unfold Or2 At; omega
            · unfold Or2 At; omega
      · go_simp
        refine hK _ _ ?_
        clear hK K
        try simp only [Act.put, List.setIfInBounds_toArray, List.set_cons_zero, List.set_cons_succ]
        refine wpAnyIn_ready (rs := [0, 1]) (by kernel_rfl) (by simp) (AllReadyIn.cons (o := { dst := some 18, op := Op.load 3 (Operand.tmp 3), type := 3, pos := "wipe.go:22", after := #[], guard := none }) rfl (fun K hK => ?_) (AllReadyIn.cons (o := { dst := some 19, op := Op.load 26 (Operand.tmp 1), type := 26, pos := "wipe.go:22", after := #[], guard := none }) rfl (fun K hK => ?_) AllReadyIn.nil))
        · go_simp
          refine hK _ _ ?_
          clear hK K
          try simp only [Act.put, List.setIfInBounds_toArray, List.set_cons_zero, List.set_cons_succ]
          refine wpAnyIn_ready (rs := [1]) (by kernel_rfl) (by simp) (AllReadyIn.cons (o := { dst := some 19, op := Op.load 26 (Operand.tmp 1), type := 26, pos := "wipe.go:22", after := #[], guard := none }) rfl (fun K hK => ?_) AllReadyIn.nil)
          go_simp
          refine hK _ _ ?_
          clear hK K
          try simp only [Act.put, List.setIfInBounds_toArray, List.set_cons_zero, List.set_cons_succ]
          refine wpAnyIn_ready (rs := [3]) (by kernel_rfl) (by simp) (AllReadyIn.cons (o := { dst := some 21, op := Op.call { callee := Callee.value (Operand.func 43), args := #[Operand.tmp 19, Operand.tmp 20], argTypes := #[26, 39] }, type := 3, pos := "wipe.go:22", after := #[{ on := 1, ground := Ground.data }, { on := 2, ground := Ground.data }], guard := none }) rfl (fun K hK => ?_) AllReadyIn.nil)
          go_simp
          refine ⟨trivial, ?_⟩
          gi_at_call 43
          (refine (callsIn_wide.2 (winside_any HI'.out.pl.drew ⟨fs, fk, fa⟩ HFK.out)).mono ?_)
          rw [HLN.out]
          rintro e W3 ⟨rfl, hp3, ht3⟩
          rw [HCL.out] at hp3
          rw [← HKN.out]
          obtain ⟨r0, r1, r2, r3⟩ := HI'.out.call ht3
          rw [← HNN.out, ← HCNN.out] at r1
          have rB := HB.out W3 ht3
          have HP3 := Lib.hid hp3
          have HT3 := Lib.hid ht3
          clear hp3 ht3
          refine hK _ _ ?_
          clear hK K
          try simp only [Act.put, List.setIfInBounds_toArray, List.set_cons_zero, List.set_cons_succ]
          refine wpAnyIn_ready (rs := [4]) (by kernel_rfl) (by simp) (AllReadyIn.cons (o := { dst := some 22, op := Op.binOp BinOp.add 3 (Operand.tmp 18) (Operand.tmp 21) 3, type := 3, pos := "wipe.go:22", after := #[{ on := 0, ground := Ground.data }, { on := 3, ground := Ground.data }], guard := none }) rfl (fun K hK => ?_) AllReadyIn.nil)
          go_simp
          refine hK _ _ ?_
          clear hK K
          try simp only [Act.put, List.setIfInBounds_toArray, List.set_cons_zero, List.set_cons_succ]
          refine wpAnyIn_ready (rs := [5]) (by kernel_rfl) (by simp) (AllReadyIn.cons (o := { dst := none, op := Op.store 3 (Operand.tmp 3) (Operand.tmp 22), type := 0, pos := "wipe.go:22", after := #[{ on := 4, ground := Ground.data }, { on := 3, ground := Ground.chain }, { on := 0, ground := Ground.phase }, { on := 1, ground := Ground.phase }, { on := 2, ground := Ground.phase }, { on := 3, ground := Ground.phase }, { on := 4, ground := Ground.phase }], guard := none }) rfl (fun K hK => ?_) AllReadyIn.nil)
          go_simp
          refine hK _ _ ?_
          clear hK K
          try simp only [Act.put, List.setIfInBounds_toArray, List.set_cons_zero, List.set_cons_succ]
          refine wpAnyIn_done (by kernel_rfl) ?_ _
          obtain ⟨s0, s1, s2, s3, s4, s5⟩ := HI'.out.mid HP3.out HT3.out ((cn : Int) + (kn : Int))
          have sB := s4 B _ HBL.out.1 HBL.out.2 HB2.out
          obtain ⟨W4, hW4⟩ : ∃ W4, W4 = W3.setCell ⟨w.heap.size + 1, 0, none⟩ (.int .i64 ((cn : Int) + (kn : Int))) := ⟨_, rfl⟩
          rw [← hW4] at s0 s1 s2 s3 s4 s5 sB ⊢
          have HS := Lib.hid (And.intro s0 (And.intro s2 (And.intro s3 s5)))
          have t0 : W4.cell? ⟨B, 0, none⟩ = some (.int .i64 fs) := by simp [World.cell?, sB]
          clear s0 s2 s3 s4 s5 sB hW4 r0 r1 r2 r3 rB
          gi_wp2_with fail
          refine ⟨trivial, ?_⟩
          gi_at_call 75
          refine (CallsIn.inRound l (callsIn_wide.2 (wunmark_any HS.out.1 fs HBC.out))).mono ?_
          rintro e W5 ⟨⟨v, rfl⟩, hp5, ht5⟩
          have HS5 := Lib.hid (HI'.out.step ⟨fs, fk, fa⟩ HPR.out HS.out.2 hp5 ht5 HLN.out HKN.out HCN.out)
          clear hp5 ht5
          gi_wp2
          obtain ⟨hf, ht⟩ := HS5.out
          have hlg' := HI'.out.lg
          have hW := HI'.out.tn.size
          refine ⟨keeps_of_turn ht (fun k hk => by rcases hk with hk | hk <;> unfold At at hk <;> omega), Keep2.turn ht (by omega) (by omega) ?_ ?_, hf⟩
          · unfold Or2 At; omega
          · unfold Or2 At; omega
        · go_simp
          refine hK _ _ ?_
          clear hK K
          try simp only [Act.put, List.setIfInBounds_toArray, List.set_cons_zero, List.set_cons_succ]
          refine wpAnyIn_ready (rs := [0, 3]) (by kernel_rfl) (by simp) (AllReadyIn.cons (o := { dst := some 18, op := Op.load 3 (Operand.tmp 3), type := 3, pos := "wipe.go:22", after := #[], guard := none }) rfl (fun K hK => ?_) (AllReadyIn.cons (o := { dst := some 21, op := Op.call { callee := Callee.value (Operand.func 43), args := #[Operand.tmp 19, Operand.tmp 20], argTypes := #[26, 39] }, type := 3, pos := "wipe.go:22", after := #[{ on := 1, ground := Ground.data }, { on := 2, ground := Ground.data }], guard := none }) rfl (fun K hK => ?_) AllReadyIn.nil))
          · go_simp
            refine hK _ _ ?_
            clear hK K
            try simp only [Act.put, List.setIfInBounds_toArray, List.set_cons_zero, List.set_cons_succ]
            refine wpAnyIn_ready (rs := [3]) (by kernel_rfl) (by simp) (AllReadyIn.cons (o := { dst := some 21, op := Op.call { callee := Callee.value (Operand.func 43), args := #[Operand.tmp 19, Operand.tmp 20], argTypes := #[26, 39] }, type := 3, pos := "wipe.go:22", after := #[{ on := 1, ground := Ground.data }, { on := 2, ground := Ground.data }], guard := none }) rfl (fun K hK => ?_) AllReadyIn.nil)
            go_simp
            refine ⟨trivial, ?_⟩
            gi_at_call 43
            (refine (callsIn_wide.2 (winside_any HI'.out.pl.drew ⟨fs, fk, fa⟩ HFK.out)).mono ?_)
            rw [HLN.out]
            rintro e W3 ⟨rfl, hp3, ht3⟩
            rw [HCL.out] at hp3
            rw [← HKN.out]
            obtain ⟨r0, r1, r2, r3⟩ := HI'.out.call ht3
            rw [← HNN.out, ← HCNN.out] at r1
            have rB := HB.out W3 ht3
            have HP3 := Lib.hid hp3
            have HT3 := Lib.hid ht3
            clear hp3 ht3
            refine hK _ _ ?_
            clear hK K
            try simp only [Act.put, List.setIfInBounds_toArray, List.set_cons_zero, List.set_cons_succ]
            refine wpAnyIn_ready (rs := [4]) (by kernel_rfl) (by simp) (AllReadyIn.cons (o := { dst := some 22, op := Op.binOp BinOp.add 3 (Operand.tmp 18) (Operand.tmp 21) 3, type := 3, pos := "wipe.go:22", after := #[{ on := 0, ground := Ground.data }, { on := 3, ground := Ground.data }], guard := none }) rfl (fun K hK => ?_) AllReadyIn.nil)
            go_simp
            refine hK _ _ ?_
            clear hK K
            try simp only [Act.put, List.setIfInBounds_toArray, List.set_cons_zero, List.set_cons_succ]
            refine wpAnyIn_ready (rs := [5]) (by kernel_rfl) (by simp) (AllReadyIn.cons (o := { dst := none, op := Op.store 3 (Operand.tmp 3) (Operand.tmp 22), type := 0, pos := "wipe.go:22", after := #[{ on := 4, ground := Ground.data }, { on := 3, ground := Ground.chain }, { on := 0, ground := Ground.phase }, { on := 1, ground := Ground.phase }, { on := 2, ground := Ground.phase }, { on := 3, ground := Ground.phase }, { on := 4, ground := Ground.phase }], guard := none }) rfl (fun K hK => ?_) AllReadyIn.nil)
            go_simp
            refine hK _ _ ?_
            clear hK K
            try simp only [Act.put, List.setIfInBounds_toArray, List.set_cons_zero, List.set_cons_succ]
            refine wpAnyIn_done (by kernel_rfl) ?_ _
            obtain ⟨s0, s1, s2, s3, s4, s5⟩ := HI'.out.mid HP3.out HT3.out ((cn : Int) + (kn : Int))
            have sB := s4 B _ HBL.out.1 HBL.out.2 HB2.out
            obtain ⟨W4, hW4⟩ : ∃ W4, W4 = W3.setCell ⟨w.heap.size + 1, 0, none⟩ (.int .i64 ((cn : Int) + (kn : Int))) := ⟨_, rfl⟩
            rw [← hW4] at s0 s1 s2 s3 s4 s5 sB ⊢
            have HS := Lib.hid (And.intro s0 (And.intro s2 (And.intro s3 s5)))
            have t0 : W4.cell? ⟨B, 0, none⟩ = some (.int .i64 fs) := by simp [World.cell?, sB]
            clear s0 s2 s3 s4 s5 sB hW4 r0 r1 r2 r3 rB
            gi_wp2_with fail
            refine ⟨trivial, ?_⟩
            gi_at_call 75
            refine (CallsIn.inRound l (callsIn_wide.2 (wunmark_any HS.out.1 fs HBC.out))).mono ?_
            rintro e W5 ⟨⟨v, rfl⟩, hp5, ht5⟩
            have HS5 := Lib.hid (HI'.out.step ⟨fs, fk, fa⟩ HPR.out HS.out.2 hp5 ht5 HLN.out HKN.out HCN.out)
            clear hp5 ht5
            gi_wp2
            obtain ⟨hf, ht⟩ := HS5.out
            have hlg' := HI'.out.lg
            have hW := HI'.out.tn.size
            refine ⟨keeps_of_turn ht (fun k hk => by rcases hk with hk | hk <;> unfold At at hk <;> omega), Keep2.turn ht (by omega) (by omega) ?_ ?_, hf⟩
            · unfold Or2 At; omega
            · unfold Or2 At; omega
          · go_simp
            refine ⟨trivial, ?_⟩
            gi_at_call 43
            (refine (callsIn_wide.2 (winside_any HI'.out.pl.drew ⟨fs, fk, fa⟩ HFK.out)).mono ?_)
            rw [HLN.out]
            rintro e W3 ⟨rfl, hp3, ht3⟩
            rw [HCL.out] at hp3
            rw [← HKN.out]
            obtain ⟨r0, r1, r2, r3⟩ := HI'.out.call ht3
            rw [← HNN.out, ← HCNN.out] at r1
            have rB := HB.out W3 ht3
            have HP3 := Lib.hid hp3
            have HT3 := Lib.hid ht3
            clear hp3 ht3
            refine hK _ _ ?_
            clear hK K
            try simp only [Act.put, List.setIfInBounds_toArray, List.set_cons_zero, List.set_cons_succ]
            refine wpAnyIn_ready (rs := [0]) (by kernel_rfl) (by simp) (AllReadyIn.cons (o := { dst := some 18, op := Op.load 3 (Operand.tmp 3), type := 3, pos := "wipe.go:22", after := #[], guard := none }) rfl (fun K hK => ?_) AllReadyIn.nil)
            go_simp
            refine hK _ _ ?_
            clear hK K
            try simp only [Act.put, List.setIfInBounds_toArray, List.set_cons_zero, List.set_cons_succ]
            refine wpAnyIn_ready (rs := [4]) (by kernel_rfl) (by simp) (AllReadyIn.cons (o := { dst := some 22, op := Op.binOp BinOp.add 3 (Operand.tmp 18) (Operand.tmp 21) 3, type := 3, pos := "wipe.go:22", after := #[{ on := 0, ground := Ground.data }, { on := 3, ground := Ground.data }], guard := none }) rfl (fun K hK => ?_) AllReadyIn.nil)
            go_simp
            refine hK _ _ ?_
            clear hK K
            try simp only [Act.put, List.setIfInBounds_toArray, List.set_cons_zero, List.set_cons_succ]
            refine wpAnyIn_ready (rs := [5]) (by kernel_rfl) (by simp) (AllReadyIn.cons (o := { dst := none, op := Op.store 3 (Operand.tmp 3) (Operand.tmp 22), type := 0, pos := "wipe.go:22", after := #[{ on := 4, ground := Ground.data }, { on := 3, ground := Ground.chain }, { on := 0, ground := Ground.phase }, { on := 1, ground := Ground.phase }, { on := 2, ground := Ground.phase }, { on := 3, ground := Ground.phase }, { on := 4, ground := Ground.phase }], guard := none }) rfl (fun K hK => ?_) AllReadyIn.nil)
            go_simp
            refine hK _ _ ?_
            clear hK K
            try simp only [Act.put, List.setIfInBounds_toArray, List.set_cons_zero, List.set_cons_succ]
            refine wpAnyIn_done (by kernel_rfl) ?_ _
            obtain ⟨s0, s1, s2, s3, s4, s5⟩ := HI'.out.mid HP3.out HT3.out ((cn : Int) + (kn : Int))
            have sB := s4 B _ HBL.out.1 HBL.out.2 HB2.out
            obtain ⟨W4, hW4⟩ : ∃ W4, W4 = W3.setCell ⟨w.heap.size + 1, 0, none⟩ (.int .i64 ((cn : Int) + (kn : Int))) := ⟨_, rfl⟩
            rw [← hW4] at s0 s1 s2 s3 s4 s5 sB ⊢
            have HS := Lib.hid (And.intro s0 (And.intro s2 (And.intro s3 s5)))
            have t0 : W4.cell? ⟨B, 0, none⟩ = some (.int .i64 fs) := by simp [World.cell?, sB]
            clear s0 s2 s3 s4 s5 sB hW4 r0 r1 r2 r3 rB
            gi_wp2_with fail
            refine ⟨trivial, ?_⟩
            gi_at_call 75
            refine (CallsIn.inRound l (callsIn_wide.2 (wunmark_any HS.out.1 fs HBC.out))).mono ?_
            rintro e W5 ⟨⟨v, rfl⟩, hp5, ht5⟩
            have HS5 := Lib.hid (HI'.out.step ⟨fs, fk, fa⟩ HPR.out HS.out.2 hp5 ht5 HLN.out HKN.out HCN.out)
            clear hp5 ht5
            gi_wp2
            obtain ⟨hf, ht⟩ := HS5.out
            have hlg' := HI'.out.lg
            have hW := HI'.out.tn.size
            refine ⟨keeps_of_turn ht (fun k hk => by rcases hk with hk | hk <;> unfold At at hk <;> omega), Keep2.turn ht (by omega) (by omega) ?_ ?_, hf⟩
            · unfold Or2 At; omega
            · unfold Or2 At; omega
  case done =>
    rintro D ys W hD rfl hI' hK
    have hall := opF_eq L1 L1.length (Nat.le_refl _)
    rw [hall, show allK L1 (fun _ => L1) L1.length = allL L1 from rfl] at hI'
    have q0 : W.cell? ⟨w.heap.size, 0, none⟩ = some (.pointer (some ⟨b, 0, none⟩)) := by simp [World.cell?, hI'.b0]
    have HBOK := Lib.hid (HKE.out (allL L1)).2.2
    have HI' := Lib.hid hI'
    have HKD := Lib.hid hK
    clear hI' hK hall
    gi_wp2_with fail
    refine region_wide (by kernel_rfl) ?_
    refine wpAnyIn_ready (rs := [0, 1]) (by kernel_rfl) (by simp) (AllReadyIn.cons (o := { dst := some 27, op := Op.load 26 (Operand.tmp 1), type := 26, pos := "wipe.go:26", after := #[], guard := none }) rfl (fun K hK => ?_) (AllReadyIn.cons (o := { dst := some 28, op := Op.load 26 (Operand.tmp 1), type := 26, pos := "wipe.go:26", after := #[], guard := none }) rfl (fun K hK => ?_) AllReadyIn.nil))
    · go_simp
      refine hK _ _ ?_
      clear hK K
      try simp only [Act.put, List.setIfInBounds_toArray, List.set_cons_zero, List.set_cons_succ]
      refine wpAnyIn_ready (rs := [1]) (by kernel_rfl) (by simp) (AllReadyIn.cons (o := { dst := some 28, op := Op.load 26 (Operand.tmp 1), type := 26, pos := "wipe.go:26", after := #[], guard := none }) rfl (fun K hK => ?_) AllReadyIn.nil)
      go_simp
      refine hK _ _ ?_
      clear hK K
      try simp only [Act.put, List.setIfInBounds_toArray, List.set_cons_zero, List.set_cons_succ]
      refine wpAnyIn_ready (rs := [2]) (by kernel_rfl) (by simp) (AllReadyIn.cons (o := { dst := some 29, op := Op.call { callee := Callee.value (Operand.func 12), args := #[Operand.tmp 28], argTypes := #[26] }, type := 3, pos := "wipe.go:26", after := #[{ on := 1, ground := Ground.data }], guard := none }) rfl (fun K hK => ?_) AllReadyIn.nil)
      go_simp
      refine ⟨trivial, ?_⟩
      gi_at_call 12
      (refine (callsIn_wide.2 (home_any HI'.out.pl.drew HBOK.out)).mono ?_)
      rintro e W6 ⟨rfl, hb6⟩
      obtain ⟨u0, u1, u2⟩ := HI'.out.quiet hb6
      have HU := Lib.hid (And.intro u1 u2)
      have HSZ := Lib.hid (show W.heap.size ≤ W6.heap.size from hb6.size)
      clear u1 u2 hb6
      refine hK _ _ ?_
      clear hK K
      try simp only [Act.put, List.setIfInBounds_toArray, List.set_cons_zero, List.set_cons_succ]
      refine wpAnyIn_ready (rs := [3]) (by kernel_rfl) (by simp) (AllReadyIn.cons (o := { dst := some 30, op := Op.call { callee := Callee.value (Operand.func 76), args := #[Operand.tmp 27, Operand.tmp 29], argTypes := #[26, 3] }, type := 4, pos := "wipe.go:26", after := #[{ on := 0, ground := Ground.data }, { on := 2, ground := Ground.data }, { on := 2, ground := Ground.chain }], guard := none }) rfl (fun K hK => ?_) AllReadyIn.nil)
      go_simp
      refine ⟨trivial, ?_⟩
      gi_at_call 76
      (refine (callsIn_wide.2 (point_any HU.out.1 _)).mono ?_)
      rintro e W7 ⟨rfl, hp7, ht7⟩
      have v0 := op_count' HU.out.2.1 ht7
      have HP7 := Lib.hid hp7
      have HT7 := Lib.hid ht7
      clear hp7 ht7
      refine hK _ _ ?_
      clear hK K
      try simp only [Act.put, List.setIfInBounds_toArray, List.set_cons_zero, List.set_cons_succ]
      refine wpAnyIn_done (by kernel_rfl) ?_ _
      gi_wp2
      have hK7 := op_kept HI'.out.pl HU.out.2.2 HT7.out HSZ.out HKD.out rfl
      refine ⟨by simp, .inl ⟨_, _, rfl, run_takeDeferred hK7, ?_⟩⟩
      refine ⟨_, results_tmp rfl _ _ _, ?_, ?_, ?_⟩
      · rw [HEQ.out.2]; rfl
      · have hcu : curO L cur = (if hasL (opP L1 (allL L1)) (homeL (opP L1 (allL L1))) = true then homeL (opP L1 (allL L1)) else cur) := by unfold curO openL; rw [HEQ.out.1]
        have hop : openL L = opP L1 (allL L1) := by unfold openL; rw [HEQ.out.1]
        rw [hcu, hop]
        exact HP7.out.grown (grownBy_putObj' W7 D (.deferred none)) (fun r e => by cases e; exact ⟨_, hK7, rfl⟩)
      · exact (op_turn HU.out.2.1 HT7.out).grown (grownBy_putObj' W7 D (.deferred none)) (fun k e => by cases e; left; omega)
    · go_simp
      refine hK _ _ ?_
      clear hK K
      try simp only [Act.put, List.setIfInBounds_toArray, List.set_cons_zero, List.set_cons_succ]
      refine wpAnyIn_ready (rs := [0, 2]) (by kernel_rfl) (by simp) (AllReadyIn.cons (o := { dst := some 27, op := Op.load 26 (Operand.tmp 1), type := 26, pos := "wipe.go:26", after := #[], guard := none }) rfl (fun K hK => ?_) (AllReadyIn.cons (o := { dst := some 29, op := Op.call { callee := Callee.value (Operand.func 12), args := #[Operand.tmp 28], argTypes := #[26] }, type := 3, pos := "wipe.go:26", after := #[{ on := 1, ground := Ground.data }], guard := none }) rfl (fun K hK => ?_) AllReadyIn.nil))
      · go_simp
        refine hK _ _ ?_
        clear hK K
        try simp only [Act.put, List.setIfInBounds_toArray, List.set_cons_zero, List.set_cons_succ]
        refine wpAnyIn_ready (rs := [2]) (by kernel_rfl) (by simp) (AllReadyIn.cons (o := { dst := some 29, op := Op.call { callee := Callee.value (Operand.func 12), args := #[Operand.tmp 28], argTypes := #[26] }, type := 3, pos := "wipe.go:26", after := #[{ on := 1, ground := Ground.data }], guard := none }) rfl (fun K hK => ?_) AllReadyIn.nil)
        go_simp
        refine ⟨trivial, ?_⟩
        gi_at_call 12
        (refine (callsIn_wide.2 (home_any HI'.out.pl.drew HBOK.out)).mono ?_)
        rintro e W6 ⟨rfl, hb6⟩
        obtain ⟨u0, u1, u2⟩ := HI'.out.quiet hb6
        have HU := Lib.hid (And.intro u1 u2)
        have HSZ := Lib.hid (show W.heap.size ≤ W6.heap.size from hb6.size)
        clear u1 u2 hb6
        refine hK _ _ ?_
        clear hK K
        try simp only [Act.put, List.setIfInBounds_toArray, List.set_cons_zero, List.set_cons_succ]
        refine wpAnyIn_ready (rs := [3]) (by kernel_rfl) (by simp) (AllReadyIn.cons (o := { dst := some 30, op := Op.call { callee := Callee.value (Operand.func 76), args := #[Operand.tmp 27, Operand.tmp 29], argTypes := #[26, 3] }, type := 4, pos := "wipe.go:26", after := #[{ on := 0, ground := Ground.data }, { on := 2, ground := Ground.data }, { on := 2, ground := Ground.chain }], guard := none }) rfl (fun K hK => ?_) AllReadyIn.nil)
        go_simp
        refine ⟨trivial, ?_⟩
        gi_at_call 76
        (refine (callsIn_wide.2 (point_any HU.out.1 _)).mono ?_)
        rintro e W7 ⟨rfl, hp7, ht7⟩
        have v0 := op_count' HU.out.2.1 ht7
        have HP7 := Lib.hid hp7
        have HT7 := Lib.hid ht7
        clear hp7 ht7
        refine hK _ _ ?_
        clear hK K
        try simp only [Act.put, List.setIfInBounds_toArray, List.set_cons_zero, List.set_cons_succ]
        refine wpAnyIn_done (by kernel_rfl) ?_ _
        gi_wp2
        have hK7 := op_kept HI'.out.pl HU.out.2.2 HT7.out HSZ.out HKD.out rfl
        refine ⟨by simp, .inl ⟨_, _, rfl, run_takeDeferred hK7, ?_⟩⟩
        refine ⟨_, results_tmp rfl _ _ _, ?_, ?_, ?_⟩
        · rw [HEQ.out.2]; rfl
        · have hcu : curO L cur = (if hasL (opP L1 (allL L1)) (homeL (opP L1 (allL L1))) = true then homeL (opP L1 (allL L1)) else cur) := by unfold curO openL; rw [HEQ.out.1]
          have hop : openL L = opP L1 (allL L1) := by unfold openL; rw [HEQ.out.1]
          rw [hcu, hop]
          exact HP7.out.grown (grownBy_putObj' W7 D (.deferred none)) (fun r e => by cases e; exact ⟨_, hK7, rfl⟩)
        · exact (op_turn HU.out.2.1 HT7.out).grown (grownBy_putObj' W7 D (.deferred none)) (fun k e => by cases e; left; omega)
      · go_simp
        refine ⟨trivial, ?_⟩
        gi_at_call 12
        (refine (callsIn_wide.2 (home_any HI'.out.pl.drew HBOK.out)).mono ?_)
        rintro e W6 ⟨rfl, hb6⟩
        obtain ⟨u0, u1, u2⟩ := HI'.out.quiet hb6
        have HU := Lib.hid (And.intro u1 u2)
        have HSZ := Lib.hid (show W.heap.size ≤ W6.heap.size from hb6.size)
        clear u1 u2 hb6
        refine hK _ _ ?_
        clear hK K
        try simp only [Act.put, List.setIfInBounds_toArray, List.set_cons_zero, List.set_cons_succ]
        refine wpAnyIn_ready (rs := [0]) (by kernel_rfl) (by simp) (AllReadyIn.cons (o := { dst := some 27, op := Op.load 26 (Operand.tmp 1), type := 26, pos := "wipe.go:26", after := #[], guard := none }) rfl (fun K hK => ?_) AllReadyIn.nil)
        go_simp
        refine hK _ _ ?_
        clear hK K
        try simp only [Act.put, List.setIfInBounds_toArray, List.set_cons_zero, List.set_cons_succ]
        refine wpAnyIn_ready (rs := [3]) (by kernel_rfl) (by simp) (AllReadyIn.cons (o := { dst := some 30, op := Op.call { callee := Callee.value (Operand.func 76), args := #[Operand.tmp 27, Operand.tmp 29], argTypes := #[26, 3] }, type := 4, pos := "wipe.go:26", after := #[{ on := 0, ground := Ground.data }, { on := 2, ground := Ground.data }, { on := 2, ground := Ground.chain }], guard := none }) rfl (fun K hK => ?_) AllReadyIn.nil)
        go_simp
        refine ⟨trivial, ?_⟩
        gi_at_call 76
        (refine (callsIn_wide.2 (point_any HU.out.1 _)).mono ?_)
        rintro e W7 ⟨rfl, hp7, ht7⟩
        have v0 := op_count' HU.out.2.1 ht7
        have HP7 := Lib.hid hp7
        have HT7 := Lib.hid ht7
        clear hp7 ht7
        refine hK _ _ ?_
        clear hK K
        try simp only [Act.put, List.setIfInBounds_toArray, List.set_cons_zero, List.set_cons_succ]
        refine wpAnyIn_done (by kernel_rfl) ?_ _
        gi_wp2
        have hK7 := op_kept HI'.out.pl HU.out.2.2 HT7.out HSZ.out HKD.out rfl
        refine ⟨by simp, .inl ⟨_, _, rfl, run_takeDeferred hK7, ?_⟩⟩
        refine ⟨_, results_tmp rfl _ _ _, ?_, ?_, ?_⟩
        · rw [HEQ.out.2]; rfl
        · have hcu : curO L cur = (if hasL (opP L1 (allL L1)) (homeL (opP L1 (allL L1))) = true then homeL (opP L1 (allL L1)) else cur) := by unfold curO openL; rw [HEQ.out.1]
          have hop : openL L = opP L1 (allL L1) := by unfold openL; rw [HEQ.out.1]
          rw [hcu, hop]
          exact HP7.out.grown (grownBy_putObj' W7 D (.deferred none)) (fun r e => by cases e; exact ⟨_, hK7, rfl⟩)
        · exact (op_turn HU.out.2.1 HT7.out).grown (grownBy_putObj' W7 D (.deferred none)) (fun k e => by cases e; left; omega)
  case stop =>
    rintro D c pre W _ _ h _
    exact h.elim
set_option maxRecDepth 100000 in
set_option maxHeartbeats 4000000 in
theorem open_plain {w : World} {b g : Nat} {r c cur : Int} {L : List Cl} (h : PlAt w b g r c cur L) (hbo : BoL L) (hb : befL L 0 = -1) :
    CallsIn Fence.wide 3 Try.prog 38 #[.pointer (some ⟨b, 0, none⟩)] w fun e W => e = .returned (.int .i64 ((openN L : Nat) : Int)) ∧ PlAt W b g r c (curO L cur) (openL L) ∧ Turn (Or2 (At b) (At g)) w W := by
  have hlb := h.lt
  have hlg := h.ltg
  have hm := h.most
  have hpo := h.pos
  obtain ⟨W0, hW0⟩ : ∃ W0, W0 = (w.alloc (.cells #[.pointer (some ⟨b, 0, none⟩)] 26)).alloc (.cells #[.int .i64 0] 3) := ⟨_, rfl⟩
  have h0 : OpI w b g r c cur L 0 [] W0 := by
    rw [hW0]
    have e0 := heap_alloc_new w (.cells #[.pointer (some ⟨b, 0, none⟩)] 26)
    have e1 := heap_alloc_new (w.alloc (.cells #[.pointer (some ⟨b, 0, none⟩)] 26)) (.cells #[.int .i64 0] 3)
    simp only [World.size_alloc] at e1
    refine ⟨(h.alloc _).alloc _, ?_, e1, ?_, hlb, hlg⟩
    · rw [Below.heap_alloc _ _ _ (by simp)]; exact e0
    · exact Turn.of_below ((below_alloc w _).alloc (by simp) _)
  have hsz0 : W0.heap.size = w.heap.size + 2 := by rw [hW0]; simp
  have p0 : W0.cell? ⟨w.heap.size, 0, none⟩ = some (.pointer (some ⟨b, 0, none⟩)) := by simp [World.cell?, h0.b0]
  have hfm : (befL L 0 != -1) = false := by rw [hb]; rfl
  have hfmt := formatted_any h0.pl
  rw [show opP L [] = L from rfl, hfm] at hfmt
  have HFM := Lib.hid hfmt
  have HB0 := Lib.hid hb
  have HBO := Lib.hid hbo
  have HW0 := Lib.hid hW0.symm
  have H0 := Lib.hid h0
  clear hW0 h h0 hbo hb hfm hfmt
  refine callsIn_of_wp_marks Try.func38 rfl trivial ?_ rfl
  simp only [Try.ntmps38, List.size_toArray, List.length_cons, List.length_nil, Nat.reduceAdd, Nat.reduceSub, Array.replicate_succ, Array.replicate_zero, List.push_toArray, List.append_toArray, List.nil_append, List.cons_append]
  gi_wp2_with fail
  rw [HW0.out]
  gi_wp2_with (refine ⟨trivial, ?_⟩; first
    | (gi_at_call 11; (with_reducible refine (callsIn_wide.2 HFM.out).mono ?_); rintro e w1 ⟨rfl, hb1⟩; have H1 := Lib.hid (H0.out.below hb1); have hs1 := hb1.size; clear hb1; have q0 : w1.cell? ⟨w.heap.size, 0, none⟩ = some (.pointer (some ⟨b, 0, none⟩)) := (by simp [World.cell?, H1.out.b0]); have q9 : w1.frozen? ⟨w.heap.size + 1, 0, none⟩ = false := (by simp [World.frozen?, H1.out.b1]))
    | (gi_at_call 74; (refine (callsIn_wide.2 (fill_any H1.out.pl 0 0 c0)).mono ?_); rw [show opP L [] = L from rfl]; rintro e w1b ⟨rfl, hp1, ht1⟩
       obtain ⟨k0, hk0⟩ : ∃ k0, k0 = (betw L.length 0 0).length := ⟨_, rfl⟩
       rw [← hk0]
       obtain ⟨r0, r1, r2, r3⟩ := H1.out.call ⟨ht1.os, ht1.tape, ht1.output, ht1.size, ht1.block⟩
       have HMID := Lib.hid (H1.out.mid hp1 ⟨ht1.os, ht1.tape, ht1.output, ht1.size, ht1.block⟩ (k0 : Int))
       have hs1b := ht1.size
       have HK0 := Lib.hid hk0
       clear hp1 ht1 hk0))
  obtain ⟨L1, hL1⟩ : ∃ L1, L1 = fillL L (betw L.length 0 0) c0 := ⟨_, rfl⟩
  have hln : L1.length = L.length := by rw [hL1, fillL_length]
  have HL1 := Lib.hid (show open0 L = L1 by unfold open0; rw [if_pos HB0.out, hL1])
  obtain ⟨m0, hm0⟩ : ∃ m0 : Nat, m0 = k0 := ⟨_, rfl⟩
  have hml : m0 ≤ 4096 := by rw [hm0, HK0.out]; exact betw_length _ 0 0 (by omega)
  have HEQ := Lib.hid (show open0 L = L1 ∧ openN L = m0 + opN L1.length (allL L1) by
    refine ⟨HL1.out, ?_⟩
    unfold openN; rw [HL1.out, if_pos HB0.out, hm0, HK0.out, hln])
  have HB1 := Lib.hid (show BoL L1 by
    rw [← HL1.out]; intro i; rw [open0_none HB0.out]; exact ⟨by decide, by decide⟩)
  have HNO := Lib.hid (show allL L1 = [] by rw [← HL1.out]; exact (all_st (open0_st hpo) (open0_len L) hpo).2 ((bef_none (L := L) (a := 0) (by omega) (by omega)).1 HB0.out))
  obtain ⟨w2, hw2⟩ : ∃ w2, w2 = w1b.setCell ⟨w.heap.size + 1, 0, none⟩ (.int .i64 (k0 : Int)) := ⟨_, rfl⟩
  have H2 := Lib.hid (show OpI w b g r c cur L1 m0 [] w2 by
    obtain ⟨x0, x1, x2, x3, x4, x5⟩ := HMID.out
    rw [hw2]
    refine ⟨by rw [hL1]; exact x0, x2, by rw [x3, hm0]; rfl, ?_, hlb, hlg⟩
    have t2 : Turn (fun k => k = g ∨ w.heap.size ≤ k) w (w1b.setCell ⟨w.heap.size + 1, 0, none⟩ (.int .i64 (k0 : Int))) := (H1.out.tn.mono fun k hk => .inl hk).trans (x5.mono fun k hk => by rcases hk with hk | hk; exact .inl hk; exact .inr (by rw [show k = w.heap.size + 1 from hk]; omega))
    exact ⟨t2.os, t2.tape, t2.output, t2.size, fun k hk hn => t2.block k hk (by rintro (e | e); exact hn e; omega)⟩)
  have hs2 : w.heap.size + 2 ≤ w2.heap.size := by rw [hw2, World.size_setCell]; omega
  have hnl : L1.length ≤ 4096 ∧ 1 ≤ L1.length := by rw [hln]; exact ⟨hm, hpo⟩
  rw [← hw2]
  clear hw2 hL1 hm0 H0 H1 HL1 q0 q9 hs1 p0 HFM HW0 HMID r0 r1 r2 r3 hs1b hln
  refine ⟨trivial, ?_⟩
  refine (callsIn_wide.2 (all_any w2 b)).mono ?_
  rintro e W1 ⟨rfl, hI, hb1, hsz1⟩
  have H3 := Lib.hid (H2.out.below hb1)
  have HKE := Lib.hid (opP_keeps L1 HB1.out)
  obtain ⟨N1, hN1⟩ : ∃ N1, N1 = w2.heap.size := ⟨_, rfl⟩
  rw [← hN1] at hI hs2 hsz1 ⊢
  have hseq := all_seq 2 (by omega) N1 b g r c cur L1 (opP L1) (fun pre i => (HKE.out pre).1 i) (fun pre => (HKE.out pre).2.1) (fun pre => (HKE.out pre).2.2) W1 (by omega) hI
  have HSQ := Lib.hid hseq
  have hw1n : N1 < W1.heap.size := by omega
  clear hI hseq hb1 hN1 H2
  gi_wp2_with fail
  refine range_ask (α := Fd) rfl (by omega) (gf := 83) rfl trivial (enters_of Try.func83 (by kernel_rfl) rfl) HSQ.out Keep2.trans ?hKb (Below.refl _ _) (fun _ => rfl)
    (OpI w b g r c cur L1 m0) (fun _ W h => h.pl) (fun _ _ _ => False) (OpI.own _ (by omega)) (fun _ _ _ _ _ h _ _ => h) H3.out
    (fun f a' W => ∃ B, w.heap.size + 1 < B ∧ W.heap[B]? = some (.cells #[.int .i64 f.s, .int .i64 f.k, .int .u8 f.a] 39 (0, 0)) ∧ a' = { tmps := #[.pointer (some ⟨b, 0, none⟩), .pointer (some ⟨w.heap.size, 0, none⟩), .int .i64 0, .pointer (some ⟨w.heap.size + 1, 0, none⟩), .pointer (some ⟨B, 0, none⟩), .pointer (some ⟨b, 0, none⟩), .bool false, .bool true, .pointer (some ⟨b, 0, none⟩), .agg #[.int .u8 0, .bool false, .bool false, .int .u8 0, .int .u8 0], .int .i64 (k0 : Int), .pointer (some ⟨b, 0, none⟩), .func (.func 83) #[] #[.pointer (some ⟨N1, 0, none⟩)], f.val, undef, undef, undef, undef, undef, undef, undef, undef, undef, undef, undef, undef, undef, undef, undef, undef, undef, undef], defers := [] })
    ?hAx ?assign ?body ?done ?stop
  case hKb =>
    intro W o o' ho hc
    have := lt_of_block ho
    exact Keep2.put W o' (by omega) (by omega) (by omega) (by omega)
  case hAx =>
    rintro f a' s X Y row ⟨B, h1, h2, h3⟩ hg hr
    exact ⟨B, h1, (cells_kept h2 hg (fun r e => (hr r e).2)).trans h2, h3⟩
  case assign =>
    intro l pre f W K hsp hWs hI' hK
    rw [Nat.add_zero] at hWs
    have HI' := Lib.hid hI'
    clear hI'
    gi_wp2
    have hb := below_alloc W (.cells #[.int .i64 f.s, .int .i64 f.k, .int .u8 f.a] 39)
    refine hK _ _ (keepsB hb) (Keep2.turn (S := fun _ => False) (Turn.of_below hb) (by omega) (by omega) (by simp) (by simp)) (OpI.own W.heap.size (by have := HI'.out.tn.size; omega) pre W _ none HI'.out (grown_of_below hb) (fun _ e => by cases e)) ⟨W.heap.size, lt_of_block HI'.out.b1, heap_alloc_new _ _, ?_⟩
    rfl
  case body =>
    rintro l pre f a' W hsp hI' ⟨B, hB1, hB2, rfl⟩ hlt hWs
    exfalso
    have := opF_eq L1 L1.length (Nat.le_refl _)
    rw [this, show allK L1 (fun _ => L1) L1.length = [] from HNO.out] at hlt
    simp at hlt
  case done =>
    rintro D ys W hD rfl hI' hK
    have hall := opF_eq L1 L1.length (Nat.le_refl _)
    rw [hall, show allK L1 (fun _ => L1) L1.length = allL L1 from rfl] at hI'
    have q0 : W.cell? ⟨w.heap.size, 0, none⟩ = some (.pointer (some ⟨b, 0, none⟩)) := by simp [World.cell?, hI'.b0]
    have HBOK := Lib.hid (HKE.out (allL L1)).2.2
    have HI' := Lib.hid hI'
    have HKD := Lib.hid hK
    clear hI' hK hall
    gi_wp2_with fail
    refine region_wide (by kernel_rfl) ?_
    refine wpAnyIn_ready (rs := [0, 1]) (by kernel_rfl) (by simp) (AllReadyIn.cons (o := { dst := some 27, op := Op.load 26 (Operand.tmp 1), type := 26, pos := "wipe.go:26", after := #[], guard := none }) rfl (fun K hK => ?_) (AllReadyIn.cons (o := { dst := some 28, op := Op.load 26 (Operand.tmp 1), type := 26, pos := "wipe.go:26", after := #[], guard := none }) rfl (fun K hK => ?_) AllReadyIn.nil))
    · go_simp
      refine hK _ _ ?_
      clear hK K
      try simp only [Act.put, List.setIfInBounds_toArray, List.set_cons_zero, List.set_cons_succ]
      refine wpAnyIn_ready (rs := [1]) (by kernel_rfl) (by simp) (AllReadyIn.cons (o := { dst := some 28, op := Op.load 26 (Operand.tmp 1), type := 26, pos := "wipe.go:26", after := #[], guard := none }) rfl (fun K hK => ?_) AllReadyIn.nil)
      go_simp
      refine hK _ _ ?_
      clear hK K
      try simp only [Act.put, List.setIfInBounds_toArray, List.set_cons_zero, List.set_cons_succ]
      refine wpAnyIn_ready (rs := [2]) (by kernel_rfl) (by simp) (AllReadyIn.cons (o := { dst := some 29, op := Op.call { callee := Callee.value (Operand.func 12), args := #[Operand.tmp 28], argTypes := #[26] }, type := 3, pos := "wipe.go:26", after := #[{ on := 1, ground := Ground.data }], guard := none }) rfl (fun K hK => ?_) AllReadyIn.nil)
      go_simp
      refine ⟨trivial, ?_⟩
      gi_at_call 12
      (refine (callsIn_wide.2 (home_any HI'.out.pl.drew HBOK.out)).mono ?_)
      rintro e W6 ⟨rfl, hb6⟩
      obtain ⟨u0, u1, u2⟩ := HI'.out.quiet hb6
      have HU := Lib.hid (And.intro u1 u2)
      have HSZ := Lib.hid (show W.heap.size ≤ W6.heap.size from hb6.size)
      clear u1 u2 hb6
      refine hK _ _ ?_
      clear hK K
      try simp only [Act.put, List.setIfInBounds_toArray, List.set_cons_zero, List.set_cons_succ]
      refine wpAnyIn_ready (rs := [3]) (by kernel_rfl) (by simp) (AllReadyIn.cons (o := { dst := some 30, op := Op.call { callee := Callee.value (Operand.func 76), args := #[Operand.tmp 27, Operand.tmp 29], argTypes := #[26, 3] }, type := 4, pos := "wipe.go:26", after := #[{ on := 0, ground := Ground.data }, { on := 2, ground := Ground.data }, { on := 2, ground := Ground.chain }], guard := none }) rfl (fun K hK => ?_) AllReadyIn.nil)
      go_simp
      refine ⟨trivial, ?_⟩
      gi_at_call 76
      (refine (callsIn_wide.2 (point_any HU.out.1 _)).mono ?_)
      rintro e W7 ⟨rfl, hp7, ht7⟩
      have v0 := op_count' HU.out.2.1 ht7
      have HP7 := Lib.hid hp7
      have HT7 := Lib.hid ht7
      clear hp7 ht7
      refine hK _ _ ?_
      clear hK K
      try simp only [Act.put, List.setIfInBounds_toArray, List.set_cons_zero, List.set_cons_succ]
      refine wpAnyIn_done (by kernel_rfl) ?_ _
      gi_wp2
      have hK7 := op_kept HI'.out.pl HU.out.2.2 HT7.out HSZ.out HKD.out rfl
      refine ⟨by simp, .inl ⟨_, _, rfl, run_takeDeferred hK7, ?_⟩⟩
      refine ⟨_, results_tmp rfl _ _ _, ?_, ?_, ?_⟩
      · rw [HEQ.out.2]; rfl
      · have hcu : curO L cur = (if hasL (opP L1 (allL L1)) (homeL (opP L1 (allL L1))) = true then homeL (opP L1 (allL L1)) else cur) := by unfold curO openL; rw [HEQ.out.1]
        have hop : openL L = opP L1 (allL L1) := by unfold openL; rw [HEQ.out.1]
        rw [hcu, hop]
        exact HP7.out.grown (grownBy_putObj' W7 D (.deferred none)) (fun r e => by cases e; exact ⟨_, hK7, rfl⟩)
      · exact (op_turn HU.out.2.1 HT7.out).grown (grownBy_putObj' W7 D (.deferred none)) (fun k e => by cases e; left; omega)
    · go_simp
      refine hK _ _ ?_
      clear hK K
      try simp only [Act.put, List.setIfInBounds_toArray, List.set_cons_zero, List.set_cons_succ]
      refine wpAnyIn_ready (rs := [0, 2]) (by kernel_rfl) (by simp) (AllReadyIn.cons (o := { dst := some 27, op := Op.load 26 (Operand.tmp 1), type := 26, pos := "wipe.go:26", after := #[], guard := none }) rfl (fun K hK => ?_) (AllReadyIn.cons (o := { dst := some 29, op := Op.call { callee := Callee.value (Operand.func 12), args := #[Operand.tmp 28], argTypes := #[26] }, type := 3, pos := "wipe.go:26", after := #[{ on := 1, ground := Ground.data }], guard := none }) rfl (fun K hK => ?_) AllReadyIn.nil))
      · go_simp
        refine hK _ _ ?_
        clear hK K
        try simp only [Act.put, List.setIfInBounds_toArray, List.set_cons_zero, List.set_cons_succ]
        refine wpAnyIn_ready (rs := [2]) (by kernel_rfl) (by simp) (AllReadyIn.cons (o := { dst := some 29, op := Op.call { callee := Callee.value (Operand.func 12), args := #[Operand.tmp 28], argTypes := #[26] }, type := 3, pos := "wipe.go:26", after := #[{ on := 1, ground := Ground.data }], guard := none }) rfl (fun K hK => ?_) AllReadyIn.nil)
        go_simp
        refine ⟨trivial, ?_⟩
        gi_at_call 12
        (refine (callsIn_wide.2 (home_any HI'.out.pl.drew HBOK.out)).mono ?_)
        rintro e W6 ⟨rfl, hb6⟩
        obtain ⟨u0, u1, u2⟩ := HI'.out.quiet hb6
        have HU := Lib.hid (And.intro u1 u2)
        have HSZ := Lib.hid (show W.heap.size ≤ W6.heap.size from hb6.size)
        clear u1 u2 hb6
        refine hK _ _ ?_
        clear hK K
        try simp only [Act.put, List.setIfInBounds_toArray, List.set_cons_zero, List.set_cons_succ]
        refine wpAnyIn_ready (rs := [3]) (by kernel_rfl) (by simp) (AllReadyIn.cons (o := { dst := some 30, op := Op.call { callee := Callee.value (Operand.func 76), args := #[Operand.tmp 27, Operand.tmp 29], argTypes := #[26, 3] }, type := 4, pos := "wipe.go:26", after := #[{ on := 0, ground := Ground.data }, { on := 2, ground := Ground.data }, { on := 2, ground := Ground.chain }], guard := none }) rfl (fun K hK => ?_) AllReadyIn.nil)
        go_simp
        refine ⟨trivial, ?_⟩
        gi_at_call 76
        (refine (callsIn_wide.2 (point_any HU.out.1 _)).mono ?_)
        rintro e W7 ⟨rfl, hp7, ht7⟩
        have v0 := op_count' HU.out.2.1 ht7
        have HP7 := Lib.hid hp7
        have HT7 := Lib.hid ht7
        clear hp7 ht7
        refine hK _ _ ?_
        clear hK K
        try simp only [Act.put, List.setIfInBounds_toArray, List.set_cons_zero, List.set_cons_succ]
        refine wpAnyIn_done (by kernel_rfl) ?_ _
        gi_wp2
        have hK7 := op_kept HI'.out.pl HU.out.2.2 HT7.out HSZ.out HKD.out rfl
        refine ⟨by simp, .inl ⟨_, _, rfl, run_takeDeferred hK7, ?_⟩⟩
        refine ⟨_, results_tmp rfl _ _ _, ?_, ?_, ?_⟩
        · rw [HEQ.out.2]; rfl
        · have hcu : curO L cur = (if hasL (opP L1 (allL L1)) (homeL (opP L1 (allL L1))) = true then homeL (opP L1 (allL L1)) else cur) := by unfold curO openL; rw [HEQ.out.1]
          have hop : openL L = opP L1 (allL L1) := by unfold openL; rw [HEQ.out.1]
          rw [hcu, hop]
          exact HP7.out.grown (grownBy_putObj' W7 D (.deferred none)) (fun r e => by cases e; exact ⟨_, hK7, rfl⟩)
        · exact (op_turn HU.out.2.1 HT7.out).grown (grownBy_putObj' W7 D (.deferred none)) (fun k e => by cases e; left; omega)
      · go_simp
        refine ⟨trivial, ?_⟩
        gi_at_call 12
        (refine (callsIn_wide.2 (home_any HI'.out.pl.drew HBOK.out)).mono ?_)
        rintro e W6 ⟨rfl, hb6⟩
        obtain ⟨u0, u1, u2⟩ := HI'.out.quiet hb6
        have HU := Lib.hid (And.intro u1 u2)
        have HSZ := Lib.hid (show W.heap.size ≤ W6.heap.size from hb6.size)
        clear u1 u2 hb6
        refine hK _ _ ?_
        clear hK K
        try simp only [Act.put, List.setIfInBounds_toArray, List.set_cons_zero, List.set_cons_succ]
        refine wpAnyIn_ready (rs := [0]) (by kernel_rfl) (by simp) (AllReadyIn.cons (o := { dst := some 27, op := Op.load 26 (Operand.tmp 1), type := 26, pos := "wipe.go:26", after := #[], guard := none }) rfl (fun K hK => ?_) AllReadyIn.nil)
        go_simp
        refine hK _ _ ?_
        clear hK K
        try simp only [Act.put, List.setIfInBounds_toArray, List.set_cons_zero, List.set_cons_succ]
        refine wpAnyIn_ready (rs := [3]) (by kernel_rfl) (by simp) (AllReadyIn.cons (o := { dst := some 30, op := Op.call { callee := Callee.value (Operand.func 76), args := #[Operand.tmp 27, Operand.tmp 29], argTypes := #[26, 3] }, type := 4, pos := "wipe.go:26", after := #[{ on := 0, ground := Ground.data }, { on := 2, ground := Ground.data }, { on := 2, ground := Ground.chain }], guard := none }) rfl (fun K hK => ?_) AllReadyIn.nil)
        go_simp
        refine ⟨trivial, ?_⟩
        gi_at_call 76
        (refine (callsIn_wide.2 (point_any HU.out.1 _)).mono ?_)
        rintro e W7 ⟨rfl, hp7, ht7⟩
        have v0 := op_count' HU.out.2.1 ht7
        have HP7 := Lib.hid hp7
        have HT7 := Lib.hid ht7
        clear hp7 ht7
        refine hK _ _ ?_
        clear hK K
        try simp only [Act.put, List.setIfInBounds_toArray, List.set_cons_zero, List.set_cons_succ]
        refine wpAnyIn_done (by kernel_rfl) ?_ _
        gi_wp2
        have hK7 := op_kept HI'.out.pl HU.out.2.2 HT7.out HSZ.out HKD.out rfl
        refine ⟨by simp, .inl ⟨_, _, rfl, run_takeDeferred hK7, ?_⟩⟩
        refine ⟨_, results_tmp rfl _ _ _, ?_, ?_, ?_⟩
        · rw [HEQ.out.2]; rfl
        · have hcu : curO L cur = (if hasL (opP L1 (allL L1)) (homeL (opP L1 (allL L1))) = true then homeL (opP L1 (allL L1)) else cur) := by unfold curO openL; rw [HEQ.out.1]
          have hop : openL L = opP L1 (allL L1) := by unfold openL; rw [HEQ.out.1]
          rw [hcu, hop]
          exact HP7.out.grown (grownBy_putObj' W7 D (.deferred none)) (fun r e => by cases e; exact ⟨_, hK7, rfl⟩)
        · exact (op_turn HU.out.2.1 HT7.out).grown (grownBy_putObj' W7 D (.deferred none)) (fun k e => by cases e; left; omega)
  case stop =>
    rintro D c pre W _ _ h _
    exact h.elim
theorem wopen_any {w : World} {b g : Nat} {r c cur : Int} {L : List Cl} (h : PlAt w b g r c cur L) (hbo : BoL L) :
    Calls Try.prog 38 #[.pointer (some ⟨b, 0, none⟩)] w fun e W => e = .returned (.int .i64 ((openN L : Nat) : Int)) ∧ PlAt W b g r c (curO L cur) (openL L) ∧ Turn (Or2 (At b) (At g)) w W := by
  by_cases hb : befL L 0 = -1
  · exact callsIn_wide.1 (open_plain h hbo hb)
  · exact callsIn_wide.1 (open_fmt h hbo hb)
end Go.Proofs.Ytgjhboikfbafcaa.Pl
