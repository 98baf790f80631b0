/-
  The laws' planes: the contract of their making.
-/
import Derived.Test.YtlcjiffnmpkndaaPlOb
import Derived.Test.YtlcjiffnmpkndaaMaskA
namespace Go.Proofs.Ytlcjiffnmpkndaa.Pl
open Go.RowKit Go.Shelf Base
set_option linter.unusedVariables false
set_option linter.unusedSimpArgs false

/-- What the making holds: its result's block, the document's plane, its cells, the plane. -/
structure MF (s q : Nat) (w : World) (r c : Int) (b g gx n : Nat) (L : List Cl) (W : World) : Prop where
  res : W.heap[s + 1]? = some (.cells #[.int .i64 0, .int .i64 0, .slice none 0 0, .int .i64 0] 29 (0, 0))
  var : W.heap[q]? = some (.cells #[.int .i64 r, .int .i64 c, .slice (some ⟨gx, 0, none⟩) n n, .int .i64 0] 29 (0, 0))
  pl : PlAt W b g r c 0 L
  row : W.ownsRow 0 58 5 (.slice (some ⟨gx, 0, none⟩) n n) n (flatC L)
  len : L.length = n
  lt : s + 1 < gx ∧ gx < q ∧ q < b ∧ q < g
  old : Below s w W
section
variable {s q : Nat} {w W W' : World} {r c : Int} {b g gx n : Nat} {L : List Cl}
theorem MF.below (h : MF s q w r c b g gx n L W) (hs : s ≤ W.heap.size) (t : Below W.heap.size W W') : MF s q w r c b g gx n L W' :=
  ⟨(t.block _ (lt_of_block h.res)).trans h.res, (t.block _ (lt_of_block h.var)).trans h.var, h.pl.below t, own_below h.row t, h.len, h.lt, h.old.trans (t.mono hs)⟩
theorem MF.size (h : MF s q w r c b g gx n L W) : s + 2 ≤ W.heap.size ∧ q < W.heap.size := ⟨by have := lt_of_block h.res; omega, lt_of_block h.var⟩
theorem MF.cells (h : MF s q w r c b g gx n L W) : W.cell? ⟨q, 2, none⟩ = some (.slice (some ⟨gx, 0, none⟩) n n) := (blk4 h.var).2.2.1
/-- Behind Set of one place, and behind the store in the document's row. -/
theorem MF.set (h : MF s q w r c b g gx n L W) (k : Nat) (x : Cl) (hk : k < n) (hp : PlAt W' b g r c 0 (setL L k x)) (t : Turn (At g) W W') :
    MF s q w r c b g gx n (setL L k x) (((((W'.setCell ⟨gx, k * 5, none⟩ (.int .u8 x.b)).setCell ⟨gx, k * 5 + 1, none⟩ (.bool x.ge)).setCell ⟨gx, k * 5 + 2, none⟩ (.bool x.st)).setCell ⟨gx, k * 5 + 3, none⟩ (.int .u8 x.li)).setCell ⟨gx, k * 5 + 4, none⟩ (.int .u8 x.co)) := by
  obtain ⟨l1, l2, l3, l4⟩ := h.lt
  have hz := h.size
  have t5 := turn5 W' gx (k * 5) (k * 5 + 1) (k * 5 + 2) (k * 5 + 3) (k * 5 + 4) (.int .u8 x.b) (.bool x.ge) (.bool x.st) (.int .u8 x.li) (.int .u8 x.co)
  have hr := own_keep h.row t.size (t.block _ (h.row.lt gx rfl).2 (by show gx ≠ g; omega))
  have s1 := (hr.stored (k * 5) (.int .u8 x.b)).1
  have s2 := (s1.stored (k * 5 + 1) (.bool x.ge)).1
  have s3 := (s2.stored (k * 5 + 2) (.bool x.st)).1
  have s4 := (s3.stored (k * 5 + 3) (.int .u8 x.li)).1
  have s5 := (s4.stored (k * 5 + 4) (.int .u8 x.co)).1
  rw [flatC_set] at s5
  have hsl : setL L k x = L.set k x := by unfold setL; rw [if_pos (by rw [h.len]; omega)]; rfl
  refine ⟨?_, ?_, hp.turn t5 (by show b ≠ gx; omega) (by show g ≠ gx; omega), by rw [hsl]; exact s5, by rw [setL_length]; exact h.len, h.lt, ?_⟩
  · rw [t5.block _ (by have := t.size; omega) (by show s + 1 ≠ gx; omega), t.block _ (by omega) (by show s + 1 ≠ g; omega)]; exact h.res
  · rw [t5.block _ (by have := t.size; omega) (by show q ≠ gx; omega), t.block _ (by omega) (by show q ≠ g; omega)]; exact h.var
  · exact (h.old.trans (t.at_below (by omega) (by omega))).trans (t5.at_below (by have := t.size; omega) (by omega))
end
def MadeP (r c : Int) (L0 : List Cl) (at_ : Int) (w : World) (e : Ending) (W : World) : Prop :=
  (¬ (1 ≤ cells r c ∧ cells r c ≤ 60) ∧ ∃ (pv : Value) (r' c' : Int) (a' : Option Addr) (l' k' : Nat), e = .returned (.tuple #[pv, xV r' c' (.slice a' l' k') 0, .bool false]) ∧ Below w.heap.size w W) ∨
    ∃ b g gx n, cells r c = (n : Nat) ∧ 1 ≤ n ∧ n ≤ 60 ∧ e = .returned (.tuple #[.pointer (some ⟨b, 0, none⟩), xV r c (.slice (some ⟨gx, 0, none⟩) n n) (at_ % 256 % n), .bool true]) ∧
      PlAt W b g r c (at_ % 256 % n) (mL n L0 L0.length) ∧ W.ownsRow 0 58 5 (.slice (some ⟨gx, 0, none⟩) n n) n (flatC (mL n L0 L0.length)) ∧ w.heap.size ≤ b ∧ w.heap.size ≤ g ∧ w.heap.size ≤ gx ∧ gx < b ∧ gx < g ∧ Below w.heap.size w W
theorem made_fail {w W4 : World} {s : Nat} {r c : Int} {L0 : List Cl} {at_ : Int} {pv : Value} (hs : s = w.heap.size) (hc : ¬ (1 ≤ cells r c ∧ cells r c ≤ 60))
    (h : W4.heap[s + 1]? = some (.cells #[.int .i64 0, .int .i64 0, .slice none 0 0, .int .i64 0] 29 (0, 0))) (hb : Below s w W4) (r' c' : Int) (a' : Option Addr) (l' k' : Nat) :
    (loadVar 29 ⟨s + 1, 0, none⟩).run Try.prog ((((W4.setCell ⟨s + 1, 0, none⟩ (.int .i64 r')).setCell ⟨s + 1, 1, none⟩ (.int .i64 c')).setCell ⟨s + 1, 2, none⟩ (.slice a' l' k')).setCell ⟨s + 1, 3, none⟩ (.int .i64 0)).drew = .ok (.agg #[(.int .i64 r'), (.int .i64 c'), (.slice a' l' k'), (.int .i64 0)]) ((((W4.setCell ⟨s + 1, 0, none⟩ (.int .i64 r')).setCell ⟨s + 1, 1, none⟩ (.int .i64 c')).setCell ⟨s + 1, 2, none⟩ (.slice a' l' k')).setCell ⟨s + 1, 3, none⟩ (.int .i64 0)).drew ∧
    MadeP r c L0 at_ w (.returned (.tuple #[pv, xV r' c' (.slice a' l' k') 0, .bool false])) ((((W4.setCell ⟨s + 1, 0, none⟩ (.int .i64 r')).setCell ⟨s + 1, 1, none⟩ (.int .i64 c')).setCell ⟨s + 1, 2, none⟩ (.slice a' l' k')).setCell ⟨s + 1, 3, none⟩ (.int .i64 0)).drew := by
  have hK0 := put4_blk h (.int .i64 r') (.int .i64 c') (.slice a' l' k') (.int .i64 0)
  have hT := put4_turn W4 (s + 1) (.int .i64 r') (.int .i64 c') (.slice a' l' k') (.int .i64 0)
  have hlt := lt_of_block h
  generalize (((W4.setCell ⟨s + 1, 0, none⟩ (.int .i64 r')).setCell ⟨s + 1, 1, none⟩ (.int .i64 c')).setCell ⟨s + 1, 2, none⟩ (.slice a' l' k')).setCell ⟨s + 1, 3, none⟩ (.int .i64 0) = X at hK0 hT ⊢
  refine ⟨load_rp (W := X.drew) hK0 rfl, .inl ⟨hc, _, _, _, _, _, _, rfl, ?_⟩⟩
  rw [← hs]
  exact below_drew (hb.trans (hT.at_below (by omega) (by omega)))
set_option maxRecDepth 100000 in
set_option maxHeartbeats 8000000 in
theorem made_any (r c : Int) (v : Value) (L0 : List Cl) (at_ : Int) (w : World) (hv : ClsAt w v L0) (hm : L0.length ≤ maxLen) : Calls Try.prog 42 #[.agg #[.int .i64 r, .int .i64 c], v, .int .i64 at_] w (MadeP r c L0 at_ w) := by
  have HV := Lib.hid hv
  obtain ⟨a, cap, rfl, hcells⟩ := hv
  obtain ⟨m, hmm⟩ : ∃ m, m = L0.length := ⟨_, rfl⟩
  rw [← hmm] at HV hm ⊢
  have HM := Lib.hid hmm
  unfold maxLen at hm
  have HC := Lib.hid hcells
  clear hmm hcells
  obtain ⟨s, hs⟩ : ∃ s, s = w.heap.size := ⟨_, rfl⟩
  have HS := Lib.hid hs
  obtain ⟨W0, hW0⟩ : ∃ W0, W0 = (w.alloc (.cells #[.int .i64 r, .int .i64 c] 23)).alloc (.cells #[.int .i64 0, .int .i64 0, .slice none 0 0, .int .i64 0] 29) := ⟨_, rfl⟩
  obtain ⟨h0, h1, h2⟩ := boxes (w' := W0) (by rw [hW0]; exact Below.refl _ _)
  have hz0 : W0.heap.size = s + 2 := by rw [hW0, World.size_alloc, World.size_alloc, hs]
  rw [← hs] at h0 h1 h2
  obtain ⟨q0, q1⟩ := blk2 h0
  have HB0 := Lib.hid h0
  have HB1 := Lib.hid h1
  have HB2 := Lib.hid h2
  have HW0 := Lib.hid hW0.symm
  obtain ⟨cb0, cb1⟩ := cells_bd r c
  generalize hQ : MadeP r c L0 at_ w = Q
  have HQ := Lib.hid hQ
  clear h0 h1 h2 hW0 hs hQ
  by_cases hc : cells r c = 0
  · have HR := Lib.hid (rnew_no r c W0 hc)
    have HC0 := Lib.hid hc
    clear hc cb0 cb1 HC HM HV
    go_enter Try.func42, Try.ntmps42
    go_wp2_with fail
    rw [HW0.out, ← HS.out]
    refine HR.out.mono ?_
    unfold xV
    rintro e w2 ⟨rfl, hb⟩
    have c2 := (hb.block (s + 1) (by omega)).trans HB1.out
    have HC3 := Lib.hid c2
    have HB4 := Lib.hid (HB2.out.trans (hb.mono (by omega)))
    have hlt : s + 1 < w2.heap.size := lt_of_block HC3.out
    clear hb c2 HR HB0 HB1 HB2 HW0
    go_wp2_with fail
    have c4 := (below_alloc w2 (.cells #[.int .i64 0, .int .i64 0, .slice none 0 0, .int .i64 0] 29)).block (s + 1) hlt
    rw [HC3.out] at c4
    have c5 := heap_alloc_new w2 (.cells #[.int .i64 0, .int .i64 0, .slice none 0 0, .int .i64 0] 29)
    have HB5 := Lib.hid (HB4.out.alloc (by omega) (.cells #[.int .i64 0, .int .i64 0, .slice none 0 0, .int .i64 0] 29))
    obtain ⟨u0, u1, u2, u3, _⟩ := blk4 c5
    obtain ⟨t0, t1, t2, t3, fz⟩ := blk4 c4
    have HC5 := Lib.hid c4
    obtain ⟨W4, hW4⟩ : ∃ W4, W4 = w2.alloc (.cells #[.int .i64 0, .int .i64 0, .slice none 0 0, .int .i64 0] 29) := ⟨_, rfl⟩
    rw [← hW4] at u0 u1 u2 u3 t0 t1 t2 t3 fz HC5 HB5 ⊢
    have hz4 : s + 1 < W4.heap.size := lt_of_block HC5.out
    clear c4 c5 hW4 HC3 HB4
    go_region
    all_goals go_wp2
    obtain ⟨e1, e2⟩ := made_fail (L0 := L0) (at_ := at_) (pv := .pointer none) HS.out (by rw [HC0.out]; omega) HC5.out HB5.out 0 0 none 0 0
    refine bodyPost_ret (results_tct rfl _ _ (s + 1) _ rfl e1) rfl ?_
    rw [← HQ.out]
    exact e2
  · obtain ⟨n, hcn⟩ : ∃ n : Nat, cells r c = n := ⟨(cells r c).toNat, by omega⟩
    have hn1 : 1 ≤ n := by omega
    have hn2 : n ≤ 4096 := by omega
    have HR := Lib.hid (rnew_yes r c n W0 hcn hn1 hn2)
    have HC0 := Lib.hid hcn
    clear hc cb0 cb1 hcn
    go_enter Try.func42, Try.ntmps42
    go_wp2_with fail
    rw [HW0.out, ← HS.out]
    refine HR.out.mono ?_
    unfold xV
    rintro e w2 ⟨gx, rfl, R2, hb, lgx⟩
    have c1 := (hb.block s (by omega)).trans HB0.out
    have c2 := (hb.block (s + 1) (by omega)).trans HB1.out
    obtain ⟨q0, q1⟩ := blk2 c1
    have HC3 := Lib.hid c2
    have HC1 := Lib.hid c1
    have HB4 := Lib.hid (HB2.out.trans (hb.mono (by omega)))
    have hlt : s + 1 < w2.heap.size := lt_of_block HC3.out
    have hgx := (R2.lt gx rfl).2
    have HR2 := Lib.hid R2
    clear hb c1 c2 HR HB0 HB1 HB2 HW0 R2
    by_cases hn3 : 60 < n
    · have hn4 : (60 : Int) < (n : Int) := by omega
      go_wp2_with fail
      have c4 := (below_alloc w2 (.cells #[.int .i64 r, .int .i64 c, .slice (some ⟨gx, 0, none⟩) n n, .int .i64 0] 29)).block (s + 1) hlt
      rw [HC3.out] at c4
      have c5 := heap_alloc_new w2 (.cells #[.int .i64 r, .int .i64 c, .slice (some ⟨gx, 0, none⟩) n n, .int .i64 0] 29)
      have HB5 := Lib.hid (HB4.out.alloc (by omega) (.cells #[.int .i64 r, .int .i64 c, .slice (some ⟨gx, 0, none⟩) n n, .int .i64 0] 29))
      obtain ⟨u0, u1, u2, u3, _⟩ := blk4 c5
      obtain ⟨t0, t1, t2, t3, fz⟩ := blk4 c4
      have HC5 := Lib.hid c4
      obtain ⟨W4, hW4⟩ : ∃ W4, W4 = w2.alloc (.cells #[.int .i64 r, .int .i64 c, .slice (some ⟨gx, 0, none⟩) n n, .int .i64 0] 29) := ⟨_, rfl⟩
      rw [← hW4] at u0 u1 u2 u3 t0 t1 t2 t3 fz HC5 HB5 ⊢
      have hz4 : s + 1 < W4.heap.size := lt_of_block HC5.out
      clear c4 c5 hW4 HC3 HB4
      go_region
      all_goals go_wp2
      obtain ⟨e1, e2⟩ := made_fail (L0 := L0) (at_ := at_) (pv := .pointer none) HS.out (by rw [HC0.out]; omega) HC5.out HB5.out r c (some ⟨gx, 0, none⟩) n n
      refine bodyPost_ret (results_tct rfl _ _ (s + 1) _ rfl e1) rfl ?_
      rw [← HQ.out]
      exact e2
    · have hn4 : (n : Int) ≤ 60 := by omega
      obtain ⟨q, hq⟩ : ∃ q, q = w2.heap.size := ⟨_, rfl⟩
      have c3 := (below_alloc w2 (.cells #[.int .i64 r, .int .i64 c, .slice (some ⟨gx, 0, none⟩) n n, .int .i64 0] 29)).block s (by omega)
      rw [HC1.out] at c3
      have c4 := (below_alloc w2 (.cells #[.int .i64 r, .int .i64 c, .slice (some ⟨gx, 0, none⟩) n n, .int .i64 0] 29)).block (s + 1) hlt
      rw [HC3.out] at c4
      have c5 := heap_alloc_new w2 (.cells #[.int .i64 r, .int .i64 c, .slice (some ⟨gx, 0, none⟩) n n, .int .i64 0] 29)
      have hwz : (w2.alloc (.cells #[.int .i64 r, .int .i64 c, .slice (some ⟨gx, 0, none⟩) n n, .int .i64 0] 29)).heap.size = q + 1 := by rw [World.size_alloc, hq]
      have hr5 := own_below HR2.out (below_alloc w2 (.cells #[.int .i64 r, .int .i64 c, .slice (some ⟨gx, 0, none⟩) n n, .int .i64 0] 29))
      have HB5 := HB4.out.alloc (by omega) (.cells #[.int .i64 r, .int .i64 c, .slice (some ⟨gx, 0, none⟩) n n, .int .i64 0] 29)
      obtain ⟨q0', q1'⟩ := blk2 c3
      obtain ⟨W4, hW4⟩ : ∃ W4, W4 = w2.alloc (.cells #[.int .i64 r, .int .i64 c, .slice (some ⟨gx, 0, none⟩) n n, .int .i64 0] 29) := ⟨_, rfl⟩
      rw [← hW4] at c3 c4 c5 hwz hr5 HB5
      rw [← hq] at c5
      have HN := Lib.hid (new_yes r c n W4 HC0.out hn1 hn2)
      have HC4 := Lib.hid c4
      have HC5 := Lib.hid c5
      have HR5 := Lib.hid hr5
      have HB6 := Lib.hid HB5
      have HW4 := Lib.hid hW4.symm
      have HQ2 := Lib.hid hq.symm
      clear c3 c4 c5 hW4 HC1 HC3 HB4 HB5 HR2 hr5 hq hlt
      go_wp2_with fail
      rw [HW4.out]
      refine HN.out.mono ?_
      rintro e w5 ⟨b, g, rfl, P5, hb, lb, lg⟩
      have hMF : MF s q w r c b g gx n (mL n L0 0) w5 := by
        rw [mL_zero]
        exact ⟨(hb.block _ (lt_of_block HC4.out)).trans HC4.out, (hb.block _ (lt_of_block HC5.out)).trans HC5.out, P5, own_below HR5.out hb, List.length_replicate, ⟨by omega, by have := HQ2.out; omega, by omega, by omega⟩, HB6.out.trans (hb.mono (by have := HB6.out.size; have := HS.out; omega))⟩
      have HMF := Lib.hid hMF
      clear hb P5 hMF HC4 HC5 HR5 HB6 HN q0 q1 q0' q1'
      go_wp2_with fail
      rw [HQ2.out]
      go_loopw [36] (fun p wr => ∃ k : Nat, k ≤ m ∧ p = .int .i64 k ∧ MF s q w r c b g gx n (mL n L0 k) wr) (fun p _ => m - (intOf p).toNat)
      case atStart => exact ⟨0, Nat.zero_le _, rfl, HMF.out⟩
      case round =>
        obtain ⟨k, hk, rfl, hmr⟩ := hrel
        have HM1 := Lib.hid hmr
        by_cases hkm : k < m
        · have hkmi : (k : Int) < (m : Int) := by omega
          have hkl : k < L0.length := by rw [← HM.out]; exact hkm
          obtain ⟨gi, off, rfl, hgi, hC⟩ := HC.out (by intro h; rw [h] at hkl; simp at hkl)
          obtain ⟨x, hx⟩ : ∃ x, L0[k]? = some x := ⟨_, List.getElem?_eq_getElem hkl⟩
          obtain ⟨a0, a1, a2, a3, a4⟩ := hC k x hx
          have hbw : Below w.heap.size w wr := by rw [← HS.out]; exact hmr.old
          have b0 := cell_later hbw a0
          have b1 := cell_later hbw a1
          have b2 := cell_later hbw a2
          have b3 := cell_later hbw a3
          have b4 := cell_later hbw a4
          have HX := Lib.hid hx
          clear a0 a1 a2 a3 a4 hC hbw hx
          by_cases hkn : k < n
          · have hkni : (k : Int) < (n : Int) := by omega
            have m2 := hmr.cells
            have m3 := fun o => cell_later (below_alloc wr o) m2
            have hz5 := hmr.size
            have hlt5 := hmr.lt
            have hgl5 := hmr.pl.ltg
            have hbl5 := hmr.pl.lt
            have hmr5 := hmr.below (by omega) (below_alloc wr (.cells #[.int .u8 x.b, .bool x.ge, .bool x.st, .int .u8 x.li, .int .u8 x.co] 58))
            have hcb := heap_alloc_new wr (.cells #[.int .u8 x.b, .bool x.ge, .bool x.st, .int .u8 x.li, .int .u8 x.co] 58)
            clear hmr
            go_wp2_with fail
            obtain ⟨W5, hW5⟩ : ∃ W5, W5 = wr.alloc (.cells #[.int .u8 x.b, .bool x.ge, .bool x.st, .int .u8 x.li, .int .u8 x.co] 58) := ⟨_, rfl⟩
            rw [← hW5] at hmr5 hcb ⊢
            have hz6 : W5.heap.size = wr.heap.size + 1 := by rw [hW5, World.size_alloc]
            refine (set_any hmr5.pl k x).mono ?_
            rintro e W6 ⟨rfl, P6, t6⟩
            have hmr6 := hmr5.set k x hkn P6 t6
            have hq6 : W6.cell? ⟨q, 2, none⟩ = some (.slice (some ⟨gx, 0, none⟩) n n) := (cell_block (t6.block q (lt_of_block hmr5.var) (by show q ≠ g; omega)) 2).trans hmr5.cells
            have hc6 : W6.heap[wr.heap.size]? = some (.cells #[.int .u8 x.b, .bool x.ge, .bool x.st, .int .u8 x.li, .int .u8 x.co] 58 (0, 0)) := (t6.block wr.heap.size (by omega) (by show wr.heap.size ≠ g; omega)).trans hcb
            have d0 : W6.cell? ⟨wr.heap.size, 0, none⟩ = some (.int .u8 x.b) := by simp [World.cell?, hc6]
            have d1 : W6.cell? ⟨wr.heap.size, 1, none⟩ = some (.bool x.ge) := by simp [World.cell?, hc6]
            have d2 : W6.cell? ⟨wr.heap.size, 2, none⟩ = some (.bool x.st) := by simp [World.cell?, hc6]
            have d3 : W6.cell? ⟨wr.heap.size, 3, none⟩ = some (.int .u8 x.li) := by simp [World.cell?, hc6]
            have d4 : W6.cell? ⟨wr.heap.size, 4, none⟩ = some (.int .u8 x.co) := by simp [World.cell?, hc6]
            have hrow := own_keep hmr5.row t6.size (t6.block gx (hmr5.row.lt gx rfl).2 (by show gx ≠ g; omega))
            have hfz : ∀ o, W6.frozen? ⟨gx, o, none⟩ = false := fun o => hrow.frozenAt o
            obtain ⟨y, hy⟩ : ∃ y, (mL n L0 k)[k]? = some y := ⟨_, List.getElem?_eq_getElem (by rw [mL_length]; exact hkn)⟩
            obtain ⟨y0, y1, y2, y3, y4⟩ := flatC_get _ k y hy
            have g0 := (hrow.cellAt (k * 5) (by omega)).trans y0
            have g1 := (hrow.cellAt (k * 5 + 1) (by omega)).trans y1
            have g2 := (hrow.cellAt (k * 5 + 2) (by omega)).trans y2
            have g3 := (hrow.cellAt (k * 5 + 3) (by omega)).trans y3
            have g4 := (hrow.cellAt (k * 5 + 4) (by omega)).trans y4
            rw [mL_step n L0 k x hkn HX.out] at hmr6
            have HM6 := Lib.hid hmr6
            clear hmr6 hrow hc6 hcb hmr5 t6 P6 y0 y1 y2 y3 y4 hy hW5 b0 b1 b2 b3 b4 m2 m3
            go_wp2
            go_roundw
            case rel => exact ⟨k + 1, by omega, by go_num, HM6.out⟩
            case measure => simp [intOf]; omega
          · have hkni : ¬ (k : Int) < (n : Int) := by omega
            have m2 := hmr.cells
            have m3 := fun o => cell_later (below_alloc wr o) m2
            have hmr5 := hmr.below (by have := hmr.size; omega) (below_alloc wr (.cells #[.int .u8 x.b, .bool x.ge, .bool x.st, .int .u8 x.li, .int .u8 x.co] 58))
            rw [mL_over n L0 k (by omega)] at hmr5
            have HM5 := Lib.hid hmr5
            clear hmr hmr5
            go_wp2
            go_roundw
            case rel => exact ⟨k + 1, by omega, by go_num, HM5.out⟩
            case measure => simp [intOf]; omega
        · obtain rfl : k = m := by omega
          obtain ⟨u0, u1, u2, u3, u4⟩ := blk4 hmr.var
          obtain ⟨j, hand0, hj1, hj2⟩ := Go.Proofs.Ytlcjiffnmpkndaa.Mask.mask_nat at_ 255 8 256 (by omega) (by decide) (by decide)
          have hand : bits .and .i64 at_ 255 = (j : Int) := hand0
          clear hand0
          have hj2' : (j : Int) = at_ % 256 := hj2
          have hn5 : (1 : Int) ≤ (n : Int) := by omega
          have hn6 : (n : Int) ≤ 4096 := by omega
          have hj0 : (0 : Int) ≤ (j : Int) ∧ (j : Int) < 256 := by omega
          obtain ⟨x, hx⟩ : ∃ x, x = (j : Int) % (n : Int) := ⟨_, rfl⟩
          have hrem : (j : Int).tmod (n : Int) = x := by rw [hx]; exact Int.tmod_eq_emod_of_nonneg hj0.1
          have hxb : 0 ≤ x ∧ x < n := by rw [hx]; exact ⟨Int.emod_nonneg _ (by omega), Int.emod_lt_of_pos _ (by omega)⟩
          have HX := Lib.hid (show at_ % 256 % (n : Int) = x by rw [hx, hj2'])
          have hbl := hmr.pl.lt
          have hgl := hmr.pl.ltg
          have hmlt := hmr.lt
          have hmsz := hmr.size
          obtain ⟨W7, hW7⟩ : ∃ W7, W7 = wr.setCell ⟨q, 3, none⟩ (.int .i64 x) := ⟨_, rfl⟩
          have ts7 := turn_set wr q 3 (.int .i64 x)
          rw [← hW7] at ts7
          have hv7 : W7.heap[q]? = some (.cells #[.int .i64 r, .int .i64 c, .slice (some ⟨gx, 0, none⟩) n n, .int .i64 x] 29 (0, 0)) := by rw [hW7, heap_set HM1.out.var 3 _]; simp
          have hr7 : W7.heap[s + 1]? = some (.cells #[.int .i64 0, .int .i64 0, .slice none 0 0, .int .i64 0] 29 (0, 0)) := (ts7.block _ (lt_of_block HM1.out.res) (by show s + 1 ≠ q; omega)).trans HM1.out.res
          have hp7 : PlAt W7 b g r c 0 (mL n L0 k) := HM1.out.pl.turn ts7 (by show b ≠ q; omega) (by show g ≠ q; omega)
          have hx7 := own_keep (W := wr) HM1.out.row ts7.size (ts7.block gx (HM1.out.row.lt gx rfl).2 (by show gx ≠ q; omega))
          have hb7 : Below s w W7 := HM1.out.old.trans (ts7.at_below (by omega) (by omega))
          have hs7 : s + 2 ≤ W7.heap.size ∧ q < W7.heap.size := by have := ts7.size; omega
          obtain ⟨p0, p1, p2, p3, p4⟩ := blk4 hv7
          have HW7 := Lib.hid hW7.symm
          have HV7 := Lib.hid hv7
          have HR7 := Lib.hid hr7
          have HP7 := Lib.hid hp7
          have HX7 := Lib.hid hx7
          have HB7 := Lib.hid hb7
          have HL := Lib.hid HM1.out.len
          have HLT := Lib.hid hmlt
          clear hmr ts7 hW7 hv7 hr7 hp7 hx7 hb7 HM1 hj2 hj2' hx
          go_wp2_with fail
          rw [HW7.out]
          refine (point_any HP7.out x).mono ?_
          rintro e W8 ⟨rfl, hp8, ht8⟩
          rw [if_pos (by simp [hasL, HL.out]; omega)] at hp8
          have hv8 := (ht8.block q (lt_of_block HV7.out) (by have := HLT.out; show q ≠ b; omega)).trans HV7.out
          have hr8 := (ht8.block (s + 1) (lt_of_block HR7.out) (by have := HLT.out; show s + 1 ≠ b; omega)).trans HR7.out
          have hx8 := own_keep (W := W7) HX7.out ht8.size (ht8.block gx (HX7.out.lt gx rfl).2 (by have := HLT.out; show gx ≠ b; omega))
          have hb8 : Below s w W8 := HB7.out.trans (ht8.at_below (by omega) (by have := HLT.out; omega))
          have hs8 : s + 2 ≤ W8.heap.size := by have := ht8.size; omega
          obtain ⟨u0, u1, u2, u3, u4⟩ := blk4 hv8
          obtain ⟨t0, t1, t2, t3, fz⟩ := blk4 hr8
          have HR8 := Lib.hid hr8
          have HP8 := Lib.hid hp8
          have HX8 := Lib.hid hx8
          have HB8 := Lib.hid hb8
          clear hv8 hr8 hp8 hx8 hb8 ht8 HP7 HV7 HR7 HX7 HB7 p0 p1 p2 p3 p4
          go_wp2_with fail
          go_region
          all_goals go_wp2
          have hK0 := put4_blk HR8.out (.int .i64 r) (.int .i64 c) (.slice (some ⟨gx, 0, none⟩) n n) (.int .i64 x)
          have hT := put4_turn W8 (s + 1) (.int .i64 r) (.int .i64 c) (.slice (some ⟨gx, 0, none⟩) n n) (.int .i64 x)
          obtain ⟨X, hX⟩ : ∃ X, X = (((W8.setCell ⟨s + 1, 0, none⟩ (.int .i64 r)).setCell ⟨s + 1, 1, none⟩ (.int .i64 c)).setCell ⟨s + 1, 2, none⟩ (.slice (some ⟨gx, 0, none⟩) n n)).setCell ⟨s + 1, 3, none⟩ (.int .i64 x) := ⟨_, rfl⟩
          rw [← hX] at hK0 hT ⊢
          clear hX
          refine bodyPost_ret (results_tct rfl _ _ (s + 1) _ rfl (load_rp (W := X.drew) hK0 rfl)) rfl ?_
          rw [← HQ.out]
          obtain ⟨l1, l2, l3, l4⟩ := HLT.out
          have hsw := HS.out
          refine .inr ⟨b, g, gx, n, HC0.out, hn1, by omega, by rw [HX.out]; rfl, ?_, ?_, by omega, by omega, by omega, by omega, by omega, ?_⟩
          · rw [← HM.out, HX.out]
            exact (HP8.out.turn hT (by show b ≠ s + 1; omega) (by show g ≠ s + 1; omega)).drew
          · rw [← HM.out]
            exact own_keep (W := W8) HX8.out hT.size (hT.block gx (HX8.out.lt gx rfl).2 (by show gx ≠ s + 1; omega))
          · rw [← hsw]
            exact below_drew (HB8.out.trans (hT.at_below (by omega) (by omega)))
end Go.Proofs.Ytlcjiffnmpkndaa.Pl
