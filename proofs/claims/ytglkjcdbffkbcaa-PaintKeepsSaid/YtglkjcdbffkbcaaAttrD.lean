/-
  Cells dressed with pairs: rows of pairs in memory; the contract of the program's Dress.
-/
import Derived.Test.YtglkjcdbffkbcaaAttrA
import Derived.Deep.WholeRow
import Derived.Laws.ResultCell
namespace Go.Proofs.Ytglkjcdbffkbcaa.Attr
open Go.RowKit Base
set_option linter.unusedVariables false

/-- A cell. -/
structure Cl where
  b : Int
  ge : Bool
  st : Bool
  li : Int
  co : Int
theorem Cl.ext' {c d : Cl} (h1 : c.b = d.b) (h2 : c.ge = d.ge) (h3 : c.st = d.st) (h4 : c.li = d.li) (h5 : c.co = d.co) : c = d := by
  cases c; cases d; simp_all
def clA (c : Cl) : Array Value := #[.int .u8 c.b, .bool c.ge, .bool c.st, .int .u8 c.li, .int .u8 c.co]
def zcl : Array Value := #[.int .u8 0, .bool false, .bool false, .int .u8 0, .int .u8 0]
def dress1 (c : Cl) (p : Int × Int) : Cl :=
  if p.1 = 192 then { c with b := p.2 % 64 } else if p.1 = 65 then { c with li := p.2 } else if p.1 = 66 then { c with co := p.2 } else if p.1 = 0 then { c with li := 0, co := 0 } else c
def dress (c : Cl) (L : List (Int × Int)) : Cl := L.foldl dress1 c
theorem dress_take (c : Cl) (L : List (Int × Int)) (k : Nat) (hk : k < L.length) : dress c (L.take (k + 1)) = dress1 (dress c (L.take k)) (L[k]?.getD (0, 0)) := by
  unfold dress
  rw [List.take_succ_eq_append_getElem hk, List.foldl_append]
  simp [hk]
/-- A row of pairs in memory. -/
def PairsAt (w : World) (v : Value) (L : List (Int × Int)) : Prop :=
  ∃ a cap, v = .slice a L.length cap ∧ (L ≠ [] → ∃ g off, a = some ⟨g, off, none⟩ ∧ ∀ i, i < L.length → w.cell? ⟨g, off + i * 2, none⟩ = some (.int .u8 (L[i]?.getD (0, 0)).1) ∧ w.cell? ⟨g, off + i * 2 + 1, none⟩ = some (.int .u8 (L[i]?.getD (0, 0)).2))
theorem PairsAt.below {w w' : World} {v : Value} {L : List (Int × Int)} (h : PairsAt w v L) (hb : Below w.heap.size w w') : PairsAt w' v L := by
  obtain ⟨a, cap, rfl, hr⟩ := h
  refine ⟨a, cap, rfl, fun hne => ?_⟩
  obtain ⟨g, off, rfl, hi⟩ := hr hne
  exact ⟨g, off, rfl, fun i hl => ⟨(hb.cell (p := ⟨_, _, none⟩) (World.block_lt_of_cell? w ⟨_, _, none⟩ (hi i hl).1)).trans (hi i hl).1, (hb.cell (p := ⟨_, _, none⟩) (World.block_lt_of_cell? w ⟨_, _, none⟩ (hi i hl).2)).trans (hi i hl).2⟩⟩
theorem size_cl : (Try.prog.info? 45).map (·.size) = some 5 := by kernel_rfl
theorem info_cl : (Try.prog.info? 45).map (fun i => (i.zero, i.size)) = some (some (.agg zcl), 5) := by kernel_rfl
theorem info_pr : (Try.prog.info? 174).map (fun i => (i.zero, i.size)) = some (some (.agg #[.int .u8 0, .int .u8 0]), 2) := by kernel_rfl
/-- While pairs are laid: the cell at s, the result's at s + 1. -/
structure DrQ (w : World) (s : Nat) (A : Array Value) (W : World) : Prop where
  old : Below s w W
  cel : W.heap[s]? = some (.cells A 45 (0, 0))
  res : W.heap[s + 1]? = some (.cells zcl 45 (0, 0))
  lo : s + 2 ≤ W.heap.size
theorem DrQ.alloc {w : World} {s : Nat} {A : Array Value} {W : World} (h : DrQ w s A W) (o : Obj) : DrQ w s A (W.alloc o) :=
  ⟨h.old.alloc (by have := h.lo; omega) o, (Below.heap_alloc _ _ _ (by have := h.lo; omega)).trans h.cel, (Below.heap_alloc _ _ _ (by have := h.lo; omega)).trans h.res, by rw [World.size_alloc]; have := h.lo; omega⟩
theorem DrQ.set {w : World} {s : Nat} {A : Array Value} {W : World} (h : DrQ w s A W) (o : Nat) (x : Value) : DrQ w s (A.setIfInBounds o x) (W.setCell ⟨s, o, none⟩ x) :=
  ⟨h.old.trans ((turn_set W s o x).at_below (by have := h.lo; omega) (Nat.le_refl _)), heap_set h.cel o x, (Below.heap_setCell _ _ _ _ (by show s + 1 ≠ s; omega)).trans h.res, by rw [World.size_setCell]; exact h.lo⟩
def DressRel (w : World) (s : Nat) (c : Cl) (L : List (Int × Int)) (n : Nat) (i : Value) (wr : World) : Prop := ∃ k, k ≤ n ∧ i = .int .i64 (k : Nat) ∧ DrQ w s (clA (dress c (L.take k))) wr
set_option maxRecDepth 100000 in
set_option maxHeartbeats 4000000 in
theorem dress_any (c : Cl) (v : Value) (L : List (Int × Int)) (w : World) (hr : PairsAt w v L) (hl : L.length ≤ maxLen) (hb : ∀ p ∈ L, (0 ≤ p.1 ∧ p.1 < 256) ∧ 0 ≤ p.2 ∧ p.2 < 256) :
    Calls Try.prog 146 #[.agg (clA c), v] w fun e w' => e = .returned (.agg (clA (dress c L))) ∧ Below w.heap.size w w' := by
  have hzc := (zero_of_info info_cl).1
  have hzp := (zero_of_info info_pr).1
  have HR := Lib.hid hr
  have HBY := Lib.hid hb
  obtain ⟨av, cv, rfl, _⟩ := hr
  obtain ⟨n, hn⟩ : ∃ n, n = L.length := ⟨_, rfl⟩
  unfold maxLen at hl
  rw [← hn] at hl HR ⊢
  have HN := Lib.hid hn
  obtain ⟨s, hs⟩ : ∃ s, s = w.heap.size := ⟨_, rfl⟩
  have HS := Lib.hid hs.symm
  rw [← hs]
  clear hn hs hb
  obtain ⟨W0, hW0⟩ : ∃ W0, W0 = (w.alloc (.cells (clA c) 45)).alloc (.cells zcl 45) := ⟨_, rfl⟩
  have hq0 : DrQ w s (clA c) W0 := by
    have z1 : (w.alloc (.cells (clA c) 45)).heap.size = s + 1 := by rw [World.size_alloc, HS.out]
    rw [hW0]
    refine ⟨(((Below.refl s w).alloc (by rw [HS.out]; omega) _).alloc (by rw [z1]; omega) _), ?_, ?_, by rw [World.size_alloc, z1]; omega⟩
    · rw [Below.heap_alloc _ _ _ (by rw [z1]; omega), ← HS.out]; exact heap_alloc_new w _
    · rw [← z1]; exact heap_alloc_new _ _
  have HQ0 := Lib.hid hq0
  unfold clA at hW0
  have HW0 := Lib.hid hW0.symm
  clear hq0 hW0
  obtain ⟨E, hE⟩ : ∃ E, E = Ending.returned (.agg (clA (dress c L))) := ⟨_, rfl⟩
  rw [← hE]
  have HE := Lib.hid hE
  clear hE
  unfold clA
  go_enter Try.func146, Try.ntmps146
  go_upto_region 2 with fail
  rw [HS.out, HW0.out]
  go_loopw [9] (fun i wr => DressRel w s c L n i wr) (fun i _ => n - (intOf i).toNat)
  case atStart => exact ⟨0, Nat.zero_le _, rfl, HQ0.out⟩
  case round =>
    obtain ⟨k, hk, rfl, hq⟩ := hrel
    have HQ := Lib.hid hq
    by_cases hkn : k < n
    · have hkl : k < L.length := by rw [← HN.out]; exact hkn
      have hne : L ≠ [] := by intro e; rw [e] at hkl; simp at hkl
      obtain ⟨a', c', e', hc⟩ := HR.out.below (show Below w.heap.size w wr by rw [HS.out]; exact hq.old)
      injection e' with e1 e2 e3
      subst e1 e3
      obtain ⟨g, off, rfl, hcell⟩ := hc hne
      obtain ⟨d0, d1⟩ := hcell k hkl
      have hbd := HBY.out (L[k]?.getD (0, 0)) (by simp [hkl])
      obtain ⟨t, ht⟩ : ∃ t, t = (L[k]?.getD (0, 0)).1 := ⟨_, rfl⟩
      obtain ⟨x, hx⟩ : ∃ x, x = (L[k]?.getD (0, 0)).2 := ⟨_, rfl⟩
      rw [← ht] at d0 hbd
      rw [← hx] at d1 hbd
      have HT : Hid (dress c (L.take (k + 1)) = dress1 (dress c (L.take k)) (t, x)) := Lib.hid (by rw [dress_take c L k hkl, ht, hx])
      obtain ⟨y, hy⟩ : ∃ y, y = dress c (L.take k) := ⟨_, rfl⟩
      rw [← hy] at HQ HT
      obtain ⟨yb, yg, ys, yl, yc⟩ := y
      have hx0 : 0 ≤ x := hbd.2.1
      have hx1 : x ≤ 255 := by have := hbd.2.2; omega
      have hand := and63u x hx0 hx1
      have c0 : wr.cell? ⟨s, 0, none⟩ = some (.int .u8 yb) := by simp [World.cell?, HQ.out.cel, clA]
      have c3 : wr.cell? ⟨s, 3, none⟩ = some (.int .u8 yl) := by simp [World.cell?, HQ.out.cel, clA]
      have c4 : wr.cell? ⟨s, 4, none⟩ = some (.int .u8 yc) := by simp [World.cell?, HQ.out.cel, clA]
      have fb : ∀ o, wr.frozen? ⟨s, o, none⟩ = false := fun o => by simp [World.frozen?, HQ.out.cel]
      have hlt : s < wr.heap.size := by have := HQ.out.lo; omega
      have hkn' : (k : Int) < (n : Int) := by omega
      clear hq hc hcell ht hx hy hbd e2 hne hkl hk
      have hty : t = 192 ∨ t = 65 ∨ t = 66 ∨ t = 0 ∨ ((t == 192) = false ∧ (t == 65) = false ∧ (t == 66) = false ∧ (t == 0) = false) := by simp; omega
      rcases hty with rfl | rfl | rfl | rfl | ⟨t1, t2, t3, t4⟩
      all_goals
        go_wp2_with fail
        go_roundw
        case' rel => refine ⟨k + 1, by omega, by go_num, ?_⟩; rw [HT.out]
        case measure => simp [intOf]; omega
      · have := (HQ.out.set 0 (.int .u8 (x % 64))).alloc (.cells #[.int .u8 192, .int .u8 x] 174)
        simpa [dress1, clA] using this
      · have := (HQ.out.set 3 (.int .u8 x)).alloc (.cells #[.int .u8 65, .int .u8 x] 174)
        simpa [dress1, clA] using this
      · have := (HQ.out.set 4 (.int .u8 x)).alloc (.cells #[.int .u8 66, .int .u8 x] 174)
        simpa [dress1, clA] using this
      · have := ((HQ.out.set 3 (.int .u8 0)).set 4 (.int .u8 0)).alloc (.cells #[.int .u8 0, .int .u8 x] 174)
        simpa [dress1, clA] using this
      · have := HQ.out.alloc (.cells #[.int .u8 t, .int .u8 x] 174)
        simp at t1 t2 t3 t4
        simpa [dress1, clA, t1, t2, t3, t4] using this
    · obtain rfl : k = n := by omega
      have hf : dress c (L.take k) = dress c L := by rw [List.take_of_length_le (by rw [← HN.out]; omega)]
      rw [hf] at HQ
      obtain ⟨y, hy⟩ : ∃ y, y = dress c L := ⟨_, rfl⟩
      rw [← hy] at HQ HE
      obtain ⟨yb, yg, ys, yl, yc⟩ := y
      have c0 : wr.cell? ⟨s, 0, none⟩ = some (.int .u8 yb) := by simp [World.cell?, HQ.out.cel, clA]
      have c1 : wr.cell? ⟨s, 1, none⟩ = some (.bool yg) := by simp [World.cell?, HQ.out.cel, clA]
      have c2 : wr.cell? ⟨s, 2, none⟩ = some (.bool ys) := by simp [World.cell?, HQ.out.cel, clA]
      have c3 : wr.cell? ⟨s, 3, none⟩ = some (.int .u8 yl) := by simp [World.cell?, HQ.out.cel, clA]
      have c4 : wr.cell? ⟨s, 4, none⟩ = some (.int .u8 yc) := by simp [World.cell?, HQ.out.cel, clA]
      have r0 : wr.cell? ⟨s + 1, 0, none⟩ = some (.int .u8 0) := by simp [World.cell?, HQ.out.res, zcl]
      have r1 : wr.cell? ⟨s + 1, 1, none⟩ = some (.bool false) := by simp [World.cell?, HQ.out.res, zcl]
      have r2 : wr.cell? ⟨s + 1, 2, none⟩ = some (.bool false) := by simp [World.cell?, HQ.out.res, zcl]
      have r3 : wr.cell? ⟨s + 1, 3, none⟩ = some (.int .u8 0) := by simp [World.cell?, HQ.out.res, zcl]
      have r4 : wr.cell? ⟨s + 1, 4, none⟩ = some (.int .u8 0) := by simp [World.cell?, HQ.out.res, zcl]
      have fr : ∀ o, wr.frozen? ⟨s + 1, o, none⟩ = false := fun o => by simp [World.frozen?, HQ.out.res]
      clear hq hf hy
      obtain ⟨W4, hW4⟩ : ∃ W4, W4 = ((((wr.setCell ⟨s + 1, 0, none⟩ (.int .u8 yb)).setCell ⟨s + 1, 1, none⟩ (.bool yg)).setCell ⟨s + 1, 2, none⟩ (.bool ys)).setCell ⟨s + 1, 3, none⟩ (.int .u8 yl)).setCell ⟨s + 1, 4, none⟩ (.int .u8 yc) := ⟨_, rfl⟩
      have hfin : W4.heap[s + 1]? = some (.cells (clA ⟨yb, yg, ys, yl, yc⟩) 45 (0, 0)) := by
        rw [hW4]
        exact heap_set (heap_set (heap_set (heap_set (heap_set HQ.out.res 0 (.int .u8 yb)) 1 (.bool yg)) 2 (.bool ys)) 3 (.int .u8 yl)) 4 (.int .u8 yc)
      have htn : Turn (At (s + 1)) wr W4 := by
        rw [hW4]
        exact ((((turn_set _ _ _ _).trans (turn_set _ _ _ _)).trans (turn_set _ _ _ _)).trans (turn_set _ _ _ _)).trans (turn_set _ _ _ _)
      have HFIN := Lib.hid hfin
      have HB := Lib.hid (HQ.out.old.trans (htn.at_below (by have := HQ.out.lo; omega) (by omega)))
      have HW4 := Lib.hid hW4.symm
      clear hfin htn hW4
      go_wp2_with fail
      rw [HW4.out]
      (try simp only [Exit.inBlock, Exit.then])
      refine bodyPost_ret (results_cell_row rfl _ _ (s + 1) 45 _ (0, 0) _ rfl HFIN.out Try.underlying45 rfl size_cl) rfl ?_
      exact ⟨HE.out.symm, HB.out⟩
end Go.Proofs.Ytglkjcdbffkbcaa.Attr
