/-
  Contract of Text of package plane: the walk.
-/
import Derived.Test.YtgjhboikfbafcaaPlG
namespace Go.Proofs.Ytgjhboikfbafcaa.Pl
open Go.RowKit Go.Shelf Base
attribute [local go_sem] Oper.semAt_some
set_option linter.unusedVariables false
set_option linter.unusedSimpArgs false

section
variable {w : World} {page : Int} {b g : Nat} {r c cur : Int} {L : List Cl} {from_ n : Int} {s : Nat}
theorem TI.own {B : Nat} (hB : s ≤ B) : OwnFrom B (TI w page b g r c cur L from_ n s) := by
  intro pre X Y row h hg hr
  have hr' : ∀ r, row = some r → ∃ o : Obj, X.heap[r]? = some o ∧ o.isCells = false := fun r e => (hr r e).2
  obtain ⟨G, l, Z, v, Bs, hBd, hbox, hBy, hGX, htext, ll, lb, hby, hGs, hXs⟩ := h.bd
  have t : Turn (fun k => row = some k) X Y := ⟨hg.os, hg.tape, hg.output, hg.size, fun k hk hn => hg.block k hk (fun e => hn e.symm)⟩
  have nr : ∀ {k : Nat} {cs : Array Value} {ty : TypeId}, X.heap[k]? = some (.cells cs ty (0, 0)) → row ≠ some k := by
    intro k cs ty hk e
    obtain ⟨o, ho, hc⟩ := hr' k e
    rw [hk] at ho; cases ho; cases hc
  refine ⟨h.it.grown hg hr', (cells_kept h.pg hg hr').trans h.pg, ⟨G, l, Z, v, Bs, ?_, (cells_kept hbox hg hr').trans hbox, ?_, hGX, htext, ll, lb, hby, hGs, hXs⟩, h.old.grown hg (Nat.le_trans (Nat.le_of_lt (lt_of_block h.pg)) (Nat.le_refl _)) (fun k e => Nat.le_trans hB (hr k e).1)⟩
  · obtain ⟨cs, e⟩ := hBd.own
    exact hBd.turn t (nr e) (fun k hk => by obtain ⟨cs, e⟩ := hBd.typed k hk; exact nr e)
  · exact hBy.turn t (fun k hk => by obtain ⟨cs, e⟩ := hBy.typed k hk; exact nr e)
theorem TI.below {pre : List CO} {X Y : World} (h : TI w page b g r c cur L from_ n s pre X) (t : Below X.heap.size X Y) : TI w page b g r c cur L from_ n s pre Y :=
  TI.own (Nat.le_refl s) pre X Y none h (grown_of_below t) (fun _ e => by cases e)
end
theorem cut0 {Y : World} {X : Option Nat} {v : Value} {Bs : List Int} (h : By Y X v Bs) : ∃ a0 c0, By Y X (.slice a0 0 c0) [] ∧ (∀ W, By W X v Bs → By W X (.slice a0 0 c0) []) ∧ ∀ Z : World, (Instr.slice 43 v none (some (.int .i64 0)) none).run Try.prog Z = .ok (.slice a0 0 c0) Z := by
  obtain ⟨h1, h2⟩ := h
  rcases h1.2 with ⟨rfl, hn⟩ | ⟨g, cap, cur, rfl, _, hg, hnc, hcm, hcs, _⟩
  · refine ⟨none, 0, ⟨World.ownsRow_nil _ _ _ _, h2⟩, fun W hW => ⟨World.ownsRow_nil _ _ _ _, h2⟩, fun Z => by kernel_rfl⟩
  · have key : ∀ W, By W X (.slice (some ⟨g, 0, none⟩) Bs.length cap) Bs → By W X (.slice (some ⟨g, 0, none⟩) 0 cap) [] := by
      rintro W ⟨q1, q2⟩
      refine ⟨⟨rfl, .inr ?_⟩, h2⟩
      rcases q1.2 with ⟨e, _⟩ | ⟨g', cap', cur', e, hb', hg', hnc', hcm', hcs', _⟩
      · cases e
      · cases e
        exact ⟨g, cap, cur', rfl, hb', hg', Nat.zero_le _, hcm', hcs', by simp⟩
    refine ⟨some ⟨g, 0, none⟩, cap, key Y ⟨h1, h2⟩, key, fun Z => ?_⟩
    obtain ⟨m, hm⟩ : ∃ m, m = Bs.length := ⟨_, rfl⟩
    rw [← hm]
    simp [Instr.slice, go_sem]
theorem bt_keep {W W' : World} {b k : Nat} {G : Option Nat} {l : List UInt8} {cs : Array Value} {ty : TypeId} (h : Bd W b G l) (t : Turn (BT b G) W W') (hk : W.heap[k]? = some (.cells cs ty (0, 0))) (hty : ty ≠ 5) (hb : k ≠ b) : W'.heap[k]? = W.heap[k]? := by
  refine t.block k (lt_of_block hk) ?_
  rintro (e | e)
  · exact hb e
  · obtain ⟨cs', e'⟩ := h.typed k e; rw [hk] at e'; cases e'; exact hty rfl
theorem ne_builder {W : World} {b k : Nat} {G : Option Nat} {l : List UInt8} {cs : Array Value} {ty : TypeId} (h : Bd W b G l) (hk : W.heap[k]? = some (.cells cs ty (0, 0))) (hty : ty ≠ 98) : k ≠ b := by
  rintro rfl
  obtain ⟨cs', e'⟩ := h.own; rw [hk] at e'; cases e'; exact hty rfl
theorem ne_box {W : World} {j k : Nat} {cs cs' : Array Value} {ty ty' : TypeId} (h : W.heap[j]? = some (.cells cs' ty' (0, 0))) (hk : W.heap[k]? = some (.cells cs ty (0, 0))) (hty : ty ≠ ty') : k ≠ j := by
  rintro rfl
  rw [hk] at h; cases h; exact hty rfl
theorem TI.ge {w Y w1 w2 w4 : World} {page : Int} {b g : Nat} {r c cur : Int} {L : List Cl} {from_ n : Int} {s N0 B0 : Nat} {pre : List CO} {G X G2 G4 : Option Nat} {l : List UInt8} {v v0 : Value} {Bs : List Int}
    (h : TI w page b g r c cur L from_ n s pre Y) (hBd : Bd Y (s + 1) G l) (hbox : Y.heap[s + 2]? = some (.cells #[v] 43 (0, 0))) (hBy : By Y X v Bs) (hGX : ∀ k, G = some k → X ≠ some k)
    (htext : l ++ Code.textOf page Bs = textC page (pre.map (·.1))) (ll : l.length + 4 * Bs.length ≤ 4 * pre.length) (hGs : ∀ k, G = some k → s ≤ k) (hXs : ∀ k, X = some k → s ≤ k)
    (hN : s + 3 ≤ N0) (hB0 : s + 3 ≤ B0) (x : CO) (hsg : signL page x.1 = geL x.1.b) (hxb : 0 ≤ x.1.b ∧ x.1.b ≤ 255)
    (b1 : Below Y.heap.size Y w1) (hB2 : Bd w2 (s + 1) G2 (l ++ Code.textOf page Bs)) (t2 : Turn (BT (s + 1) G) w1 w2) (hG2 : G2 = G ∨ ∃ k, G2 = some k ∧ w1.heap.size ≤ k) (hbx2 : w2.heap[s + 2]? = some (.cells #[v] 43 (0, 0))) (hcut : ∀ W, By W X v Bs → By W X v0 [])
    (hB4 : Bd w4 (s + 1) G4 ((l ++ Code.textOf page Bs) ++ geL x.1.b)) (t4 : Turn (BT (s + 1) G2) (w2.setCell ⟨s + 2, 0, none⟩ v0) w4) (hG4 : G4 = G2 ∨ ∃ k, G4 = some k ∧ (w2.setCell ⟨s + 2, 0, none⟩ v0).heap.size ≤ k) :
    RL w page b g r c cur L from_ n s N0 B0 (pre ++ [x]) Y w4 := by
  have hs : s ≤ Y.heap.size := Nat.le_of_lt (lt_of_block h.pg)
  have z12 := t2.size
  have z01 := b1.size
  have hX2 : ∀ k, X = some k → k ≠ s + 2 ∧ k ≠ s + 1 := by
    intro k hk
    obtain ⟨cs, e⟩ := hBy.typed k hk
    obtain ⟨cs', e2⟩ := hBd.own
    refine ⟨?_, ?_⟩
    · rintro rfl; rw [hbox] at e; cases e
    · rintro rfl; rw [e2] at e; cases e
  -- where the builder's bytes may lie
  have gg2 : ∀ k, G2 = some k → G = some k ∨ Y.heap.size ≤ k := by
    intro k hk
    rcases hG2 with e | ⟨k', e, h'⟩
    · left; rw [← e]; exact hk
    · right; rw [e] at hk; cases hk; omega
  have gg4 : ∀ k, G4 = some k → G = some k ∨ Y.heap.size ≤ k := by
    intro k hk
    rcases hG4 with e | ⟨k', e, h'⟩
    · exact gg2 k (by rw [← e]; exact hk)
    · right; rw [e] at hk; cases hk; simp at h'; omega
  have t1 : Turn (fun k => TS s G X k ∨ Y.heap.size ≤ k) Y w1 := Turn.of_below b1
  have t2' : Turn (fun k => TS s G X k ∨ Y.heap.size ≤ k) w1 w2 := t2.mono fun k hk => .inl (by rcases hk with e | e; exact .inl e; exact .inr (.inr (.inl e)))
  have t3 : Turn (fun k => TS s G X k ∨ Y.heap.size ≤ k) w2 (w2.setCell ⟨s + 2, 0, none⟩ v0) := (turn_set w2 (s + 2) 0 v0).mono fun k hk => .inl (.inr (.inl hk))
  have t4' : Turn (fun k => TS s G X k ∨ Y.heap.size ≤ k) (w2.setCell ⟨s + 2, 0, none⟩ v0) w4 := t4.mono fun k hk => by
    rcases hk with e | e
    · exact .inl (.inl e)
    · rcases gg2 k e with e | e
      · exact .inl (.inr (.inr (.inl e)))
      · exact .inr e
  have tt := ((t1.trans t2').trans t3).trans t4'
  have t : Turn (TS s G X) Y w4 := ⟨tt.os, tt.tape, tt.output, tt.size, fun k hk hn => tt.block k hk (by rintro (e | e); exact hn e; omega)⟩
  -- the bytes' row is as it was
  have hBy2 : By w2 X v Bs := (hBy.turn (S := fun _ => False) (Turn.of_below b1) (fun _ _ => id)).turn t2 (fun k hk => by
    rintro (e | e)
    · exact (hX2 k hk).2 e
    · exact hGX k e hk)
  have hBy3 : By w2 X v0 [] := hcut _ hBy2
  have hBy4 : By w4 X v0 [] := (hBy3.turn (turn_set w2 (s + 2) 0 v0) (fun k hk e => (hX2 k hk).1 e)).turn t4 (fun k hk => by
    rintro (e | e)
    · exact (hX2 k hk).2 e
    · rcases gg2 k e with e | e
      · exact hGX k e hk
      · have := hBy.lt k hk; omega)
  have hB3 : Bd (w2.setCell ⟨s + 2, 0, none⟩ v0) (s + 1) G2 (l ++ Code.textOf page Bs) := hB2.turn (turn_set w2 (s + 2) 0 v0) (by unfold At; omega) (fun k hk e => by obtain ⟨cs, e'⟩ := hB2.typed k hk; rw [show k = s + 2 from e, hbx2] at e'; cases e')
  have hbx3 : (w2.setCell ⟨s + 2, 0, none⟩ v0).heap[s + 2]? = some (.cells #[v0] 43 (0, 0)) := by simpa using heap_set hbx2 0 v0
  refine h.next hBd hbox hBy hN hB0 t x ⟨G4, _, X, v0, [], hB4, (bt_keep hB3 t4 hbx3 (by decide) (by omega)).trans hbx3, hBy4, ?_, ?_, ?_, by simp, (fun y hy => by cases hy), ?_, hXs⟩ hGs hXs
  · intro k hk e
    rcases gg4 k hk with e2 | e2
    · exact hGX k e2 e
    · have := hBy.lt k e; omega
  · rw [List.map_append, List.map_singleton, textC_snoc, ← htext, hsg]
    simp [Code.textOf]
  · have hl := Code.textOf_le page Bs
    have hg := geL_length x.1.b hxb.1 hxb.2
    rw [List.length_append, List.length_append, List.length_append, List.length_singleton, hg]
    simp only [List.length_nil]
    omega
  · intro k hk
    rcases gg4 k hk with e2 | e2
    · exact hGs k e2
    · omega
theorem ax_own (x : CO) (p : Nat → Prop) (X Y : World) (row : Option Nat) (h : ∃ cb, X.heap[cb]? = some (.cells #[.int .u8 x.1.b, .bool x.1.ge, .bool x.1.st, .int .u8 x.1.li, .int .u8 x.1.co] 45 (0, 0)) ∧ p cb) (hg : X.grownBy Y row) (hr : ∀ r, row = some r → ∃ o : Obj, X.heap[r]? = some o ∧ o.isCells = false) :
    ∃ cb, Y.heap[cb]? = some (.cells #[.int .u8 x.1.b, .bool x.1.ge, .bool x.1.st, .int .u8 x.1.li, .int .u8 x.1.co] 45 (0, 0)) ∧ p cb := by
  obtain ⟨cb, h1, h2⟩ := h
  exact ⟨cb, (cells_kept h1 hg hr).trans h1, h2⟩
theorem Bd.isB {W : World} {b s : Nat} {G : Option Nat} {l : List UInt8} (h : Bd W b G l) (hb : s ≤ b) (hG : ∀ k, G = some k → s ≤ k) : Lib.IsBuilderF 98 5 s b (Lib.byteCells l) W := by
  obtain ⟨p, v, hp, h1, h2, h3, h4⟩ := h
  have h2' : W.ownsRow s 5 1 v l.length (Lib.byteCells l) := by
    refine ⟨h2.1, ?_⟩
    rcases h2.2 with hn | ⟨g, cap, cur, rfl, _, rest⟩
    · exact .inl hn
    · exact .inr ⟨g, cap, cur, rfl, hG g h3.symm, rest⟩
  have hA : Lib.BuilderAtF 98 5 s b p (Lib.byteCells l) W := ⟨hb, v, h1, by rw [Lib.byteCells_length]; exact World.ownsRowF_of h2', by rw [h3]; exact h4⟩
  rcases hp with rfl | rfl
  · exact .inl hA
  · exact .inr hA
theorem cellsFrom_any (b : Nat) (from_ n : Int) (w : World) :
    Calls Try.prog 91 #[.pointer (some ⟨b, 0, none⟩), .int .i64 from_, .int .i64 n] w fun e w' => e = .returned (.func (.func 113) #[] #[.pointer (some ⟨w.heap.size + 2, 0, none⟩), .pointer (some ⟨w.heap.size, 0, none⟩), .pointer (some ⟨w.heap.size + 1, 0, none⟩)]) ∧
      w' = ((w.alloc (.cells #[.pointer (some ⟨b, 0, none⟩)] 26)).alloc (.cells #[.int .i64 from_] 3)).alloc (.cells #[.int .i64 n] 3) := by
  go_enter Try.func91, Try.ntmps91
  go_wp2
  go_ret
  exact ⟨rfl, rfl⟩
set_option maxRecDepth 100000 in
set_option maxHeartbeats 4000000 in
theorem text_in {w : World} {b g : Nat} {r c cur : Int} {L : List Cl} (h : PlAt w b g r c cur L) (hok : OkL L) (page from_ n : Int) :
    CallsIn Fence.wide 4 Try.prog 61 #[.pointer (some ⟨b, 0, none⟩), .int .i64 page, .int .i64 from_, .int .i64 n] w fun e W => e = .returned (.string ⟨(textL page L from_ n).toArray⟩) ∧ Below w.heap.size w W := by
  obtain ⟨i0, hi, hz0, hz1, hz2⟩ := info_parts Code.infoByte
  obtain ⟨s, hs⟩ : ∃ s, s = w.heap.size := ⟨_, rfl⟩
  obtain ⟨W0, hW0⟩ : ∃ W0, W0 = (((((w.alloc (.cells #[.int .i64 page] 3)).alloc (.cells #[.pointer none, .slice none 0 0] 98)).alloc (.cells #[.slice none 0 0] 43)).alloc (.cells #[.pointer (some ⟨b, 0, none⟩)] 26)).alloc (.cells #[.int .i64 from_] 3)).alloc (.cells #[.int .i64 n] 3) := ⟨_, rfl⟩
  have e0 := heap_alloc_new w (.cells #[.int .i64 page] 3)
  have e1 := heap_alloc_new (w.alloc (.cells #[.int .i64 page] 3)) (.cells #[.pointer none, .slice none 0 0] 98)
  have e2 := heap_alloc_new ((w.alloc (.cells #[.int .i64 page] 3)).alloc (.cells #[.pointer none, .slice none 0 0] 98)) (.cells #[.slice none 0 0] 43)
  have e3 := heap_alloc_new (((w.alloc (.cells #[.int .i64 page] 3)).alloc (.cells #[.pointer none, .slice none 0 0] 98)).alloc (.cells #[.slice none 0 0] 43)) (.cells #[.pointer (some ⟨b, 0, none⟩)] 26)
  have e4 := heap_alloc_new ((((w.alloc (.cells #[.int .i64 page] 3)).alloc (.cells #[.pointer none, .slice none 0 0] 98)).alloc (.cells #[.slice none 0 0] 43)).alloc (.cells #[.pointer (some ⟨b, 0, none⟩)] 26)) (.cells #[.int .i64 from_] 3)
  have e5 := heap_alloc_new (((((w.alloc (.cells #[.int .i64 page] 3)).alloc (.cells #[.pointer none, .slice none 0 0] 98)).alloc (.cells #[.slice none 0 0] 43)).alloc (.cells #[.pointer (some ⟨b, 0, none⟩)] 26)).alloc (.cells #[.int .i64 from_] 3)) (.cells #[.int .i64 n] 3)
  simp only [World.size_alloc] at e1 e2 e3 e4 e5
  have hb : Below w.heap.size w W0 := by
    rw [hW0]
    exact ((((((below_alloc w _).alloc (by simp) _).alloc (by simp; omega) _).alloc (by simp; omega) _).alloc (by simp; omega) _).alloc (by simp; omega) _)
  have hz : W0.heap.size = s + 6 := by rw [hW0, hs]; simp
  have h0 : TI w page b g r c cur L from_ n s [] W0 := by
    rw [hs]
    have f0 : W0.heap[w.heap.size]? = some (.cells #[.int .i64 page] 3 (0, 0)) := by
      rw [hW0, Below.heap_alloc _ _ _ (by simp; omega), Below.heap_alloc _ _ _ (by simp; omega), Below.heap_alloc _ _ _ (by simp; omega), Below.heap_alloc _ _ _ (by simp; omega), Below.heap_alloc _ _ _ (by simp)]; exact e0
    have f1 : W0.heap[w.heap.size + 1]? = some (.cells #[.pointer none, .slice none 0 0] 98 (0, 0)) := by
      rw [hW0, Below.heap_alloc _ _ _ (by simp), Below.heap_alloc _ _ _ (by simp), Below.heap_alloc _ _ _ (by simp), Below.heap_alloc _ _ _ (by simp)]; exact e1
    have f2 : W0.heap[w.heap.size + 2]? = some (.cells #[.slice none 0 0] 43 (0, 0)) := by
      rw [hW0, Below.heap_alloc _ _ _ (by simp), Below.heap_alloc _ _ _ (by simp), Below.heap_alloc _ _ _ (by simp)]; exact e2
    have f3 : W0.heap[w.heap.size + 3]? = some (.cells #[.pointer (some ⟨b, 0, none⟩)] 26 (0, 0)) := by
      rw [hW0, Below.heap_alloc _ _ _ (by simp), Below.heap_alloc _ _ _ (by simp)]; exact e3
    have f4 : W0.heap[w.heap.size + 4]? = some (.cells #[.int .i64 from_] 3 (0, 0)) := by
      rw [hW0, Below.heap_alloc _ _ _ (by simp)]; exact e4
    have f5 : W0.heap[w.heap.size + 5]? = some (.cells #[.int .i64 n] 3 (0, 0)) := by rw [hW0]; exact e5
    exact ⟨⟨h.below hb, f5, f3, f4⟩, f0, ⟨none, [], none, .slice none 0 0, [], ⟨_, _, .inl rfl, f1, World.ownsRow_nil _ _ _ _, rfl, by simp⟩, f2, By.nil _, by simp, rfl, by simp, by simp, (fun x hx => by cases hx), by simp, by simp⟩, hb⟩
  have H0 := Lib.hid h0
  have HW0 := Lib.hid hW0.symm
  have HS := Lib.hid hs
  have hmx := h.most
  have hcl : (cellsO hok from_ n).length ≤ 4096 := by
    unfold cellsO
    split
    · simp
    · rw [List.length_map]; exact betw_length _ _ _ (by omega)
  clear e0 e1 e2 e3 e4 e5 hb h0 hW0 h hs
  refine callsIn_of_wp_marks Try.func61 rfl trivial ?_ rfl
  simp only [Try.ntmps61, List.size_toArray, List.length_cons, List.length_nil, Nat.reduceAdd, Nat.reduceSub, Array.replicate_succ, Array.replicate_zero, List.push_toArray, List.append_toArray, List.nil_append, List.cons_append]
  gi_wp2_with (refine ⟨trivial, ?_⟩; gi_at_call 91; refine (callsIn_wide.2 (cellsFrom_any b from_ n _)).mono ?_; rintro e w1 ⟨rfl, rfl⟩)
  rw [HW0.out]
  have hsW := HS.out
  subst hsW
  refine range_gen (α := CO) rfl (by omega) (gf := 113) rfl trivial (enters_of Try.func113 (by kernel_rfl) rfl)
    (cells_stops H0.out.it hok) KT.trans ?hKb (Below.refl _ _) (fun _ => rfl)
    (TI w page b g r c cur L from_ n w.heap.size) (fun _ _ _ => False) (TI.own (by omega)) (fun _ _ _ _ _ h _ _ => h) H0.out
    (fun x a' Y => ∃ cb, Y.heap[cb]? = some (.cells #[.int .u8 x.1.b, .bool x.1.ge, .bool x.1.st, .int .u8 x.1.li, .int .u8 x.1.co] 45 (0, 0)) ∧ a' = { tmps := #[.pointer (some ⟨b, 0, none⟩), .int .i64 page, .int .i64 from_, .int .i64 n, undef, .pointer (some ⟨w.heap.size, 0, none⟩), undef, undef, .string { data := #[] }, .pointer (some ⟨w.heap.size + 1, 0, none⟩), .pointer (some ⟨w.heap.size + 2, 0, none⟩), .pointer (some ⟨cb, 0, none⟩), .pointer (some ⟨b, 0, none⟩), .int .i64 from_, .int .i64 n, .func (.func 113) #[] #[.pointer (some ⟨w.heap.size + 5, 0, none⟩), .pointer (some ⟨w.heap.size + 3, 0, none⟩), .pointer (some ⟨w.heap.size + 4, 0, none⟩)], x.1.val, undef, undef, undef, undef, undef, undef, undef, undef, undef, undef, undef, undef, undef, undef, undef, undef, undef, undef, undef, undef, undef, undef, undef, undef, undef, undef, undef, undef, undef], defers := [] })
    (fun x a' _ X Y row h hg hr => ax_own x _ X Y row h hg (fun r e => (hr r e).2)) ?assign ?body ?done ?stop
  case hKb =>
    intro X o o' ho hc
    have hg := grownBy_putObj' X (W0.heap.size + 1) o'
    refine ⟨keepsFrom_put _ (by omega), fun k cs ty fz hk _ hk2 => hg.block k (lt_of_block hk2) (fun e => by cases e; omega), fun k hk => hg.block k ?_ (fun e => ?_)⟩
    · have := H0.out.it.low k hk; have := lt_of_block ho; omega
    · cases e; have := H0.out.it.low _ hk; omega
  case assign =>
    intro l pre x X K hI' hK
    gi_wp2
    exact hK _ _ (keeps_below (below_alloc _ _)) (kt_below (below_alloc _ _) hI'.it.low) (hI'.below (below_alloc _ _)) ⟨X.heap.size, heap_alloc_new _ _, rfl⟩
  case body =>
    rintro l' pre x a' Y hI' ⟨cb, hcb, rfl⟩ hlt hYs
    rw [Nat.add_zero] at hYs
    obtain ⟨G, l, X, v, Bs, hBd, hbox, hBy, hGX, htext, ll, lb, hby, hGs, hXs⟩ := hI'.bd
    have y0 : Y.cell? ⟨cb, 0, none⟩ = some (.int .u8 x.1.b) := by simp [World.cell?, hcb]
    have y1 : Y.cell? ⟨cb, 1, none⟩ = some (.bool x.1.ge) := by simp [World.cell?, hcb]
    have y2 : Y.cell? ⟨cb, 2, none⟩ = some (.bool x.1.st) := by simp [World.cell?, hcb]
    have y3 : Y.cell? ⟨w.heap.size + 2, 0, none⟩ = some v := by simp [World.cell?, hbox]
    have y4 : Y.cell? ⟨w.heap.size, 0, none⟩ = some (.int .i64 page) := by simp [World.cell?, hI'.pg]
    have hlb : Bs.length ≤ 4096 := by omega
    have hll : l.length ≤ 20000 := by omega
    have HI' := Lib.hid hI'
    have HBD := Lib.hid hBd
    have HBOX := Lib.hid hbox
    have HBY := Lib.hid hBy
    have HGX := Lib.hid hGX
    have HTX := Lib.hid htext
    have HBB := Lib.hid hby
    have HGS := Lib.hid hGs
    have HXS := Lib.hid hXs
    have HCB := Lib.hid hcb
    have hown := hBy.1
    have h11 : 1 ≤ 4 - 1 - 1 := by omega
    have hY3 : w.heap.size + 3 ≤ w.heap.size + 6 := by omega
    have hY5 : w.heap.size + 3 ≤ w.heap.size + 6 + 2 := by omega
    clear hI' hBd hbox hBy hGX htext hby hGs hXs hcb
    by_cases hst : x.1.st = true
    · rw [hst] at y2
      have hsg : Hid (signL page x.1 = Code.piece page 0) := by unfold signL; rw [if_pos hst]; rfl
      gi_wp2_with (gi_at_builtin; refine wpListIn_append_own_at _ rfl _ _ 43 rfl 0 5 i0 (.int .u8 0) 1 1 Try.underlying43 hi hz0 hz1 hz2 rfl (by decide) _ _ _ rfl (hown.alloc _) ⟨Y.heap.size, 0, none⟩ 1 1 [.int .u8 0] rfl rfl (cell_one_new _ _ _) (by simp [Value.oneCell']) (by unfold maxLen; omega) (by omega) (Nat.zero_le _) ?_; intro v' w1 hown' hgrow _ hat; obtain ⟨hR, hc1, hf1⟩ := TI.app HI'.out HBD.out HBOX.out HBY.out HGX.out HTX.out ll lb HBB.out HGS.out HXS.out hY5 hY3 x 0 hsg.out ⟨by omega, by omega⟩ hown' hgrow hat; obtain ⟨g', cap', rfl⟩ := ownsRow_succ hown'; clear hat hgrow hown' hown)
      exact ⟨hR.out.kf, hR.out.kt, hR.out.ti⟩
    · have hst' : x.1.st = false := by simpa using hst
      rw [hst'] at y2
      by_cases hge : x.1.ge = true
      · rw [hge] at y1
        have hsg : Hid (signL page x.1 = geL x.1.b) := Lib.hid (by unfold signL; rw [if_neg hst, if_pos hge])
        have HT := Lib.hid (Code.text_any page v Bs Y HBY.out.row HBB.out (by omega))
        have hl2 : (Code.textOf page Bs).length ≤ 4 * Bs.length := Code.textOf_le page Bs
        have hcut : Hid (∃ a0 c0, By Y X (.slice a0 0 c0) [] ∧ (∀ W, By W X v Bs → By W X (.slice a0 0 c0) []) ∧ ∀ Z : World, (Instr.slice 43 v none (some (.int .i64 0)) none).run Try.prog Z = .ok (.slice a0 0 c0) Z) := Lib.hid (cut0 HBY.out)
        obtain ⟨a0, k0, hv1, hv2, hv3⟩ := hcut.out
        have HV1 := Lib.hid hv1
        have HV2 := Lib.hid hv2
        have hxb : Hid (0 ≤ x.1.b ∧ x.1.b ≤ 255) := Lib.hid x.2.1
        clear hv1 hv2 hown hcut
        gi_wp2_with (refine ⟨trivial, ?_⟩; gi_at_call 92; refine (CallsIn.inRound l' (callsIn_wide.2 HT.out)).mono ?_; rintro e w1 ⟨rfl, hb1⟩; have HB1 := Lib.hid hb1; have HW := Lib.hid (writeString_b (HBD.out.below hb1) ⟨(Code.textOf page Bs).toArray⟩ (by rw [show (ByteArray.mk (Code.textOf page Bs).toArray).size = (Code.textOf page Bs).length from by simp [ByteArray.size]]; omega)); clear hb1)
        refine ⟨trivial, ?_⟩
        refine (CallsIn.inRound l' (callsIn_wide.2 HW.out)).mono ?_
        rintro e w2 ⟨⟨v2, rfl⟩, G2, hB2, t2, hG2⟩
        have hbx1 := (HB1.out.block _ (lt_of_block HBOX.out)).trans HBOX.out
        have hcb1 := (HB1.out.block _ (lt_of_block HCB.out)).trans HCB.out
        have hbx2 := (bt_keep (HBD.out.below HB1.out) t2 hbx1 (by decide) (by omega)).trans hbx1
        have hcb2 := (bt_keep (HBD.out.below HB1.out) t2 hcb1 (by decide) (ne_builder (HBD.out.below HB1.out) hcb1 (by decide))).trans hcb1
        have z3 : w2.cell? ⟨w.heap.size + 2, 0, none⟩ = some v := by simp [World.cell?, hbx2]
        have z4 : w2.frozen? ⟨w.heap.size + 2, 0, none⟩ = false := by simp [World.frozen?, hbx2]
        have hcb3 := (Below.heap_setCell w2 ⟨w.heap.size + 2, 0, none⟩ (.slice a0 0 k0) cb (ne_box hbx2 hcb2 (by decide))).trans hcb2
        have z5 : (w2.setCell ⟨w.heap.size + 2, 0, none⟩ (.slice a0 0 k0)).cell? ⟨cb, 0, none⟩ = some (.int .u8 x.1.b) := by simp only [World.cell?, hcb3]; rfl
        have hB3 : Bd (w2.setCell ⟨w.heap.size + 2, 0, none⟩ (.slice a0 0 k0)) (w.heap.size + 1) G2 (l ++ Code.textOf page Bs) := hB2.turn (turn_set w2 (w.heap.size + 2) 0 (.slice a0 0 k0)) (by unfold At; omega) (fun k hk e => by obtain ⟨cs, e'⟩ := hB2.typed k hk; rw [show k = w.heap.size + 2 from e, hbx2] at e'; cases e')
        have HWR := Lib.hid (writeRune_b hB3 x.1.b hxb.out.1 hxb.out.2 (by rw [List.length_append]; omega))
        have HR2 := Lib.hid (And.intro hB2 (And.intro t2 (And.intro hG2 hbx2)))
        clear hbx1 hcb1 hbx2 hcb2 hcb3 hB3 hB2 t2 hG2
        gi_wp2_with fail
        refine ⟨trivial, ?_⟩
        refine (CallsIn.inRound l' (callsIn_wide.2 (Code.special_any x.1.b _ hxb.out.1 hxb.out.2))).mono ?_
        rintro e w3 ⟨rfl, rfl⟩
        gi_wp2_with fail
        refine ⟨trivial, ?_⟩
        refine (CallsIn.inRound l' (callsIn_wide.2 HWR.out)).mono ?_
        rintro e w4 ⟨⟨v4, rfl⟩, G4, hB4, t4, hG4⟩
        have hRL := TI.ge (N0 := w.heap.size + 6 + 2) (B0 := w.heap.size + 6) HI'.out HBD.out HBOX.out HBY.out HGX.out HTX.out ll HGS.out HXS.out hY5 hY3 x hsg.out hxb.out HB1.out HR2.out.1 HR2.out.2.1 HR2.out.2.2.1 HR2.out.2.2.2 HV2.out hB4 t4 hG4
        have HRL := Lib.hid hRL
        clear hB4 t4 hG4 hRL
        gi_wp2_with fail
        rw [hz]
        exact ⟨HRL.out.kf, HRL.out.kt, HRL.out.ti⟩
      · have hge' : x.1.ge = false := by simpa using hge
        rw [hge'] at y1
        obtain ⟨xb, hxe⟩ : ∃ xb, xb = x.1.b := ⟨_, rfl⟩
        have hsg : Hid (signL page x.1 = Code.piece page xb) := Lib.hid (by unfold signL; rw [if_neg hst, if_neg hge, hxe])
        have hxb : Hid (0 ≤ xb ∧ xb ≤ 255) := by rw [hxe]; exact x.2.1
        rw [← hxe] at y0
        clear hxe hst hge
        gi_wp2_with (gi_at_builtin; refine wpListIn_append_own_at _ rfl _ _ 43 rfl 0 5 i0 (.int .u8 0) 1 1 Try.underlying43 hi hz0 hz1 hz2 rfl (by decide) _ _ _ rfl (hown.alloc _) ⟨Y.heap.size, 0, none⟩ 1 1 [.int .u8 xb] rfl rfl (cell_one_new _ _ _) (by simp [Value.oneCell']) (by unfold maxLen; omega) (by omega) (Nat.zero_le _) ?_; intro v' w1 hown' hgrow _ hat; obtain ⟨hR, hc1, hf1⟩ := TI.app HI'.out HBD.out HBOX.out HBY.out HGX.out HTX.out ll lb HBB.out HGS.out HXS.out hY5 hY3 x xb hsg.out hxb.out hown' hgrow hat; obtain ⟨g', cap', rfl⟩ := ownsRow_succ hown'; clear hat hgrow hown' hown)
        exact ⟨hR.out.kf, hR.out.kt, hR.out.ti⟩
  case done =>
    rintro D ys X hD rfl hI' hK
    obtain ⟨G, l, Z, v, Bs, hBd, hbox, hBy, hGX, htext, ll, lb, hby, hGs, hXs⟩ := hI'.bd
    have y3 : X.cell? ⟨w.heap.size + 1 + 1, 0, none⟩ = some v := by simp [World.cell?, hbox]
    have y4 : X.cell? ⟨w.heap.size, 0, none⟩ = some (.int .i64 page) := by simp [World.cell?, hI'.pg]
    have HT := Lib.hid (Code.text_any page v Bs X hBy.row hby (by omega))
    have HTX := Lib.hid htext
    have hl2 : (Code.textOf page Bs).length ≤ 4 * Bs.length := Code.textOf_le page Bs
    have HBD := Lib.hid hBd
    have HGS := Lib.hid hGs
    have HOLD := Lib.hid hI'.old
    have hDs : w.heap.size + 6 ≤ D := by omega
    have hXsz : w.heap.size ≤ X.heap.size := hI'.old.size
    clear hI' hBd hbox hBy hGX htext hby hGs hXs
    gi_wp2_with (refine ⟨trivial, ?_⟩; gi_at_call 92; refine (callsIn_wide.2 HT.out).mono ?_; rintro e w1 ⟨rfl, hb1⟩; have HB1 := Lib.hid hb1; have HW := Lib.hid (writeString_b (HBD.out.below hb1) ⟨(Code.textOf page Bs).toArray⟩ (by rw [show (ByteArray.mk (Code.textOf page Bs).toArray).size = (Code.textOf page Bs).length from by simp [ByteArray.size]]; omega)); clear hb1)
    refine ⟨trivial, ?_⟩
    refine (callsIn_wide.2 HW.out).mono ?_
    rintro e w2 ⟨⟨v2, rfl⟩, G2, hB2, t2, hG2⟩
    have hb1 := HB1.out
    have hG2' : ∀ k, G2 = some k → w.heap.size ≤ k := by
      intro k hk
      rcases hG2 with e | ⟨k', e, h'⟩
      · exact HGS.out k (by rw [← e]; exact hk)
      · rw [e] at hk; cases hk; have := hb1.size; omega
    have hB2' := hB2.isB (s := w.heap.size) (by omega) hG2'
    have t3 : Below w.heap.size w w2 := by
      refine HOLD.out.trans ((hb1.mono hXsz).trans (t2.below (by have := hb1.size; omega) ?_))
      rintro k (rfl | hk)
      · omega
      · exact HGS.out k hk
    have ht : l ++ Code.textOf page Bs = textL page L from_ n := by
      rw [HTX.out]; unfold textL; rw [← cellsO_val hok]
    have hST := Try.Builder_String_any_k w.heap.size (w.heap.size + 1) _ w2 hB2' t3.size
    have HST := Lib.hid hST
    have HT3 := Lib.hid t3
    have KK : (w2.heap[D]? = some (.deferred (some []))) := by
      have e1 := (hb1.block D (lt_of_block hK)).trans hK
      refine (t2.block D (lt_of_block e1) ?_).trans e1
      rintro (rfl | hk)
      · omega
      · obtain ⟨cs, e⟩ := (HBD.out.below hb1).typed D hk
        rw [e1] at e; cases e
    have HKK := Lib.hid KK
    clear hST t3 hB2' hB2 t2 hG2 hG2' KK hK
    gi_wp2_with fail
    refine ⟨trivial, ?_⟩
    refine (callsIn_wide.2 HST.out).mono ?_
    rintro e w3 ⟨rfl, _, hb3, ho3⟩
    have K3 : w3.heap[D]? = some (.deferred (some [])) := by
      exact ho3 D _ HKK.out (by simp; omega) (fun c fz e => by cases e)
    gi_wp2_with fail
    refine ⟨by simp, .inl ⟨_, _, rfl, run_takeDeferred K3, ?_⟩⟩
    refine ⟨_, results_tmp rfl _ _ _, ?_, ?_⟩
    · rw [← ht]; rfl
    · exact (HT3.out.trans hb3).trans (belowK_b (w := w) (Nat.le_refl _) w3 D _ _ (by omega) K3 rfl rfl)
  case stop =>
    rintro D c' pre X hD hpre h hK
    exact h.elim
theorem text_any {w : World} {b g : Nat} {r c cur : Int} {L : List Cl} (h : PlAt w b g r c cur L) (hok : OkL L) (page from_ n : Int) :
    Calls Try.prog 61 #[.pointer (some ⟨b, 0, none⟩), .int .i64 page, .int .i64 from_, .int .i64 n] w fun e W => e = .returned (.string ⟨(textL page L from_ n).toArray⟩) ∧ Below w.heap.size w W :=
  callsIn_wide.1 (text_in h hok page from_ n)
end Go.Proofs.Ytgjhboikfbafcaa.Pl
