/-
  Contracts of New, Clear and Clone of package plane.
-/
import Derived.Test.YtlcjiffnmpkndaaPlA
import Derived.Laws.MakeOwn
import Derived.Lib.LazyBuf
import Derived.Deep.RegionWith
namespace Go.Proofs.Ytlcjiffnmpkndaa.Pl
open Go.RowKit Base
set_option linter.unusedVariables false
set_option linter.unusedSimpArgs false

theorem cell_later {w w' : World} {p : Addr} {x : Value} (hb : Below w.heap.size w w') (h : w.cell? p = some x) : w'.cell? p = some x := (hb.cell (World.block_lt_of_cell? w p h)).trans h
theorem below_drew {B : Nat} {a w : World} (h : Below B a w) : Below B a w.drew := ⟨h.os, h.tape, h.output, h.size, h.block⟩
theorem info_cell : (Try.prog.info? 58).map (fun i => (i.zero, i.size, i.bytes)) = some (some c0.val, 5, 5) := by kernel_rfl
theorem made_zero (n : Nat) : (madeCells c0.val.cells (n * 5)).toList = flatC (List.replicate n c0) := by
  have hz : c0.val.cells = #[.int .u8 0, .bool false, .bool false, .int .u8 0, .int .u8 0] := rfl
  rw [hz]
  apply List.ext_getElem?
  intro j
  by_cases hj : j < n * 5
  · obtain ⟨k, d, hd, hk, rfl⟩ : ∃ k d, d < 5 ∧ k < n ∧ j = k * 5 + d := ⟨j / 5, j % 5, by omega, by omega, by omega⟩
    obtain ⟨f0, f1, f2, f3, f4⟩ := flatC_get (List.replicate n c0) k c0 (by rw [List.getElem?_replicate, if_pos hk])
    have hm : (k * 5 + d) % 5 = d := by omega
    have hl : (madeCells #[.int .u8 0, .bool false, .bool false, .int .u8 0, .int .u8 0] (n * 5)).toList[k * 5 + d]? = #[.int .u8 0, .bool false, .bool false, .int .u8 0, .int .u8 0][d]? := by
      have h5 : d = 0 ∨ d = 1 ∨ d = 2 ∨ d = 3 ∨ d = 4 := by omega
      have hj0 : k * 5 < n * 5 := by omega
      rcases h5 with rfl | rfl | rfl | rfl | rfl <;> simp [madeCells, hj, hj0, Nat.mul_mod_left, Nat.mul_add_mod']
    rw [hl]
    have h5 : d = 0 ∨ d = 1 ∨ d = 2 ∨ d = 3 ∨ d = 4 := by omega
    rcases h5 with rfl | rfl | rfl | rfl | rfl
    · exact f0.symm
    · exact f1.symm
    · exact f2.symm
    · exact f3.symm
    · exact f4.symm
  · rw [List.getElem?_eq_none (by simp [madeCells]; omega), List.getElem?_eq_none (by rw [flatC_length, List.length_replicate]; omega)]
theorem run_mk (w : World) (n : Nat) (h : n ≤ 4096) : (Instr.makeSlice 24 (.int .i64 (n : Int)) (.int .i64 (n : Int))).run Try.prog w = .ok (.slice (some ⟨w.heap.size, 0, none⟩) n n) (w.alloc (.cells (madeCells c0.val.cells (n * 5)) 58)) := by
  obtain ⟨i, hi, hz, hsz, hby⟩ := info_parts info_cell
  have := run_make (P := Try.prog) w 24 58 i _ Try.underlying24 hi hz .i64 .i64 n n (by omega) (Int.le_refl _) (by rw [hby]; omega) (by omega)
  rw [hsz] at this
  simpa using this

theorem new_done {r c : Int} {n : Nat} {w w' : World} {zc : Array Value} (hn : cells r c = n) (h0 : 1 ≤ n) (h1 : n ≤ 4096) (hm : zc.toList = flatC (List.replicate n c0)) (hs : zc.size = n * 5) (hb0 : Below (w.alloc (.cells #[.int .i64 r, .int .i64 c] 23)).heap.size (w.alloc (.cells #[.int .i64 r, .int .i64 c] 23)) w') (hsz : w.heap.size ≤ w'.heap.size) (hb : Below w.heap.size w w') :
    ∃ b g, Ending.returned (.tuple #[.pointer (some ⟨w'.heap.size + 1, 0, none⟩), .int .i64 0]) = .returned (.tuple #[.pointer (some ⟨b, 0, none⟩), .int .i64 0]) ∧
      PlAt ((w'.alloc (.cells zc 58)).alloc (.cells #[.int .i64 r, .int .i64 c, .slice (some ⟨w'.heap.size, 0, none⟩) n n, .int .i64 0] 106)).drew b g r c 0 (List.replicate n c0) ∧
      Below w.heap.size w ((w'.alloc (.cells zc 58)).alloc (.cells #[.int .i64 r, .int .i64 c, .slice (some ⟨w'.heap.size, 0, none⟩) n n, .int .i64 0] 106)).drew ∧ w.heap.size ≤ b ∧ w.heap.size ≤ g := by
  have hl : (List.replicate n c0).length = n := List.length_replicate
  refine ⟨w'.heap.size + 1, w'.heap.size, rfl, PlAt.drew ⟨⟨n, ?_, ?_⟩, ?_, ?_, ?_⟩, ?_, by omega, by omega⟩
  · rw [hl]
    have := heap_alloc_new (w'.alloc (.cells zc 58)) (.cells #[.int .i64 r, .int .i64 c, .slice (some ⟨w'.heap.size, 0, none⟩) n n, .int .i64 0] 106)
    rwa [World.size_alloc] at this
  · rw [hl, ← hm]
    exact World.ownsRow.alloc (World.ownsRow_lit w' zc n (Nat.zero_le _) (by unfold maxLen; omega) hs) _
  · rw [hl]; exact h0
  · rw [hl]; exact h1
  · rw [hl]; exact hn
  · exact below_drew ((hb.alloc hsz _).alloc (by rw [World.size_alloc]; omega) _)
/-- A plane of the call's own, behind its making. -/
theorem new_no (r c : Int) (w : World) (hn : cells r c = 0) : Calls Try.prog 55 #[.agg #[.int .i64 r, .int .i64 c]] w fun e w' => e = .returned (.tuple #[.pointer none, .int .i64 1]) ∧ Below w.heap.size w w' := by
  go_enter Try.func55, Try.ntmps55
  go_wp2_with (go_at_call 97; refine (cells_is _ _ _ _ hn).mono ?_; rintro e w' ⟨rfl, hb⟩)
  go_ret2
  exact ⟨rfl, below_box hb⟩
theorem new_yes (r c : Int) (n : Nat) (w : World) (hn : cells r c = n) (h0 : 1 ≤ n) (h1 : n ≤ 4096) : Calls Try.prog 55 #[.agg #[.int .i64 r, .int .i64 c]] w fun e w' => ∃ b g, e = .returned (.tuple #[.pointer (some ⟨b, 0, none⟩), .int .i64 0]) ∧ PlAt w' b g r c 0 (List.replicate n c0) ∧ Below w.heap.size w w' ∧ w.heap.size ≤ b ∧ w.heap.size ≤ g := by
  have HN := Lib.hid hn
  have hmk := fun w => run_mk w n h1
  have hz : ((n : Int) == 0) = false := by simp; omega
  have HM := Lib.hid (made_zero n)
  have HS : Hid ((madeCells c0.val.cells (n * 5)).size = n * 5) := by simp [madeCells, Hid]
  generalize madeCells c0.val.cells (n * 5) = zc at hmk HM HS
  clear hn
  go_enter Try.func55, Try.ntmps55
  go_wp2_with (go_at_call 97; refine (cells_is _ _ _ _ HN.out).mono ?_; rintro e w' ⟨rfl, hb⟩; obtain ⟨hc0, hc1⟩ := box_at hb; have hd0 := fun o => cell_later (below_alloc w' o) hc0; have hd1 := fun o => cell_later (below_alloc w' o) hc1)
  have HB := Lib.hid hb
  clear hb
  go_region
  all_goals go_wp2
  all_goals go_ret2
  all_goals exact new_done HN.out h0 h1 HM.out HS.out HB.out (below_box HB.out).size (below_box HB.out)
/-- What is said of New, in one form. -/
theorem new_any (r c : Int) (w : World) : Calls Try.prog 55 #[.agg #[.int .i64 r, .int .i64 c]] w fun e w' => (cells r c = 0 ∧ e = .returned (.tuple #[.pointer none, .int .i64 1]) ∧ Below w.heap.size w w') ∨
    ∃ b g n, cells r c = (n : Nat) ∧ 1 ≤ n ∧ n ≤ 4096 ∧ e = .returned (.tuple #[.pointer (some ⟨b, 0, none⟩), .int .i64 0]) ∧ PlAt w' b g r c 0 (List.replicate n c0) ∧ Below w.heap.size w w' ∧ w.heap.size ≤ b ∧ w.heap.size ≤ g := by
  obtain ⟨h0, h1⟩ := cells_bd r c
  by_cases h : cells r c = 0
  · exact (new_no r c w h).mono fun e w' hh => .inl ⟨h, hh⟩
  · refine (new_yes r c (cells r c).toNat w (by omega) (by omega) (by omega)).mono fun e w' ⟨b, g, he, hp, hb, h1, h2⟩ => .inr ⟨b, g, (cells r c).toNat, by omega, by omega, by omega, he, hp, hb, h1, h2⟩

/-! ### Clear -/
def owr : List Value → Nat → List Value → List Value
  | xs, _, [] => xs
  | xs, o, v :: vs => owr (xs.set o v) (o + 1) vs
theorem owr_all : ∀ (vs xs : List Value) (o : Nat), o + vs.length = xs.length → owr xs o vs = xs.take o ++ vs
  | [], xs, o, h => by
    simp only [List.length_nil, Nat.add_zero] at h
    rw [owr, List.append_nil, List.take_of_length_le (by omega)]
  | v :: vs, xs, o, h => by
    simp only [List.length_cons] at h
    rw [owr, owr_all vs (xs.set o v) (o + 1) (by simp; omega), List.take_set, List.take_succ_eq_append_getElem (by omega), List.set_append_right _ _ (by simp; omega)]
    simp [Nat.min_eq_left (show o ≤ xs.length by omega), Nat.min_le_left]
theorem owns_setCells {g n cap : Nat} {e : TypeId} {k : Nat} : ∀ (vs xs : List Value) (o : Nat) (w : World), w.ownsRow 0 e k (.slice (some ⟨g, 0, none⟩) n cap) n xs →
    (w.setCells g o vs).ownsRow 0 e k (.slice (some ⟨g, 0, none⟩) n cap) n (owr xs o vs)
  | [], xs, o, w, h => h
  | v :: vs, xs, o, w, h => by
    rw [World.setCells, owr]
    exact owns_setCells vs _ _ _ (h.stored o v).1
theorem turn_setCells (b : Nat) : ∀ (vs : List Value) (o : Nat) (w : World), Turn (At b) w (w.setCells b o vs)
  | [], o, w => Turn.refl _ _
  | v :: vs, o, w => (turn_set w b o v).trans (turn_setCells b vs _ _)
theorem PlAt.cleared {W : World} {b g : Nat} {r c cur : Int} {L : List Cl} (h : PlAt W b g r c cur L) :
    PlAt ((W.setCells g 0 (flatC (List.replicate L.length c0))).setCell ⟨b, 3, none⟩ (.int .i64 0)) b g r c 0 (List.replicate L.length c0) := by
  have hne := h.ne
  obtain ⟨⟨cap, h1, h2⟩, h3, h4, h5⟩ := h
  have hl : (flatC (List.replicate L.length c0)).length = (flatC L).length := by rw [flatC_length, flatC_length, List.length_replicate]
  have hr := owns_setCells (flatC (List.replicate L.length c0)) (flatC L) 0 W h2
  rw [owr_all _ _ _ (by omega)] at hr
  simp only [List.take_zero, List.nil_append] at hr
  have h6 : (W.setCells g 0 (flatC (List.replicate L.length c0))).heap[b]? = W.heap[b]? := (turn_setCells g _ 0 W).block b (lt_of_block h1) hne
  have hp : PlAt (W.setCells g 0 (flatC (List.replicate L.length c0))) b g r c cur (List.replicate L.length c0) := by
    refine ⟨⟨cap, ?_, ?_⟩, ?_, ?_, ?_⟩
    · rw [h6, List.length_replicate]; exact h1
    · rw [List.length_replicate]; exact hr
    · rw [List.length_replicate]; exact h3
    · rw [List.length_replicate]; exact h4
    · rw [List.length_replicate]; exact h5
  exact hp.point 0
theorem zeros_flat (n : Nat) : (Builtin.zeroCells c0.val.cells n).toList = flatC (List.replicate n c0) := by
  rw [← made_zero]
  have : Builtin.zeroCells c0.val.cells n = madeCells c0.val.cells (n * 5) := rfl
  rw [this]
theorem run_clear {W : World} {b g : Nat} {r c cur : Int} {L : List Cl} (h : PlAt W b g r c cur L) (ty : TypeId) (cap : Nat) :
    (Builtin.clear_ #[24] ty #[.slice (some ⟨g, 0, none⟩) L.length cap]).run Try.prog W = .ok (.tuple #[]) (W.setCells g 0 (flatC (List.replicate L.length c0))) := by
  obtain ⟨m, hm⟩ : ∃ m, L.length = m + 1 := ⟨L.length - 1, by have := h.pos; omega⟩
  have hz : ∀ w, (zeroValue 58).run Try.prog w = .ok c0.val w := fun w => by kernel_rfl
  have hlen : (flatC (List.replicate L.length c0)).length = L.length * 5 := by rw [flatC_length, List.length_replicate]
  have hst := run_storeCells_cells (P := Try.prog) g 0 (flatC (List.replicate L.length c0)) 0 W (by
    intro j hj
    rw [hlen] at hj
    obtain ⟨⟨cap', _, h2⟩, _⟩ := h
    simp only [Nat.zero_add]
    rw [h2.cellAt j hj, List.getElem?_eq_getElem (by rw [flatC_length]; exact hj)]
    rfl) (by intro j _; exact h.frozenG _) (flatC_one _)
  simp only [Nat.add_zero] at hst
  have hzf := zeros_flat L.length
  rw [← hzf] at hst ⊢
  rw [hm] at hst ⊢
  simp [Builtin.clear_, run_underlying Try.underlying24, hz, hst]
/-! ### Clone -/
theorem own_some {W : World} {base : Nat} {e : TypeId} {k n : Nat} {v : Value} {xs : List Value} (h : W.ownsRow base e k v n xs) (hn : 1 ≤ n) : ∃ g cap, v = .slice (some ⟨g, 0, none⟩) n cap ∧ base ≤ g := by
  rcases h.2 with ⟨_, h0⟩ | ⟨g, cap, cur, rfl, hb, _⟩
  · omega
  · exact ⟨g, cap, rfl, hb⟩
set_option maxRecDepth 100000 in
set_option maxHeartbeats 4000000 in
theorem cloneCells_any {w : World} {b g : Nat} {r c cur : Int} {L : List Cl} (h : PlAt w b g r c cur L) (cap : Nat) :
    Calls Try.prog 67 #[.slice (some ⟨g, 0, none⟩) L.length cap] w fun e w' => ∃ g' cap', e = .returned (.slice (some ⟨g', 0, none⟩) L.length cap') ∧ w'.ownsRow 0 58 5 (.slice (some ⟨g', 0, none⟩) L.length cap') L.length (flatC L) ∧ w.heap.size ≤ g' ∧ Below w.heap.size w w' := by
  obtain ⟨i0, hi, hz0, hz1, hz2⟩ := info_parts info_cell
  have heq : ∀ (w : World) (a : Option Addr) (l c : Nat), (binOp .eql 24 (.slice a l c) (.slice none 0 0)).run Try.prog w = .ok (.bool a.isNone) w := fun w a l c => run_eql_slice_nil w 24 58 a l c Try.underlying24
  have hp := h.pos
  have hm := h.most
  have h1 := h.alloc (.cells #[] 58)
  have hc : ∀ (j : Nat) (u : Value), (flatC L)[j]? = some u → (w.alloc (.cells #[] 58)).cell? ((⟨g, 0, none⟩ : Addr).add j) = some u := by
    intro j u hu
    obtain ⟨⟨cap', _, h2⟩, _⟩ := h1
    exact h2.cells (g := g) rfl j u hu
  have hraw : (w.alloc (.cells #[] 58)).ownsRow w.heap.size 58 5 (.slice (some ⟨w.heap.size, 0, none⟩) 0 0) 0 [] :=
    ⟨rfl, .inr ⟨w.heap.size, 0, #[], rfl, Nat.le_refl _, heap_alloc_new w _, by simp, by simp [maxLen], rfl, by simp⟩⟩
  have HB := Lib.hid (below_alloc w (.cells #[] 58))
  have HC := Lib.hid hc
  obtain ⟨W, hW⟩ : ∃ W, W = w.alloc (.cells #[] 58) := ⟨_, rfl⟩
  have hzz : W.heap.size = w.heap.size + 1 := by rw [hW, World.size_alloc]
  rw [← hW] at HC hraw HB
  have HONE := Lib.hid (flatC_one L)
  have hln : (flatC L).length = L.length * 5 := flatC_length L
  have HW := Lib.hid hW.symm
  have HZ := Lib.hid hzz
  obtain ⟨X, hX⟩ : ∃ X, X = flatC L := ⟨_, rfl⟩
  rw [← hX] at HC HONE hln ⊢
  obtain ⟨n, hn⟩ : ∃ n, n = L.length := ⟨_, rfl⟩
  rw [← hn] at hln hp hm ⊢
  clear hW hc hzz hn hX h1 h
  go_enter Try.func67, Try.ntmps67
  go_wp2_with (at_builtin; rw [HW.out]; refine wpList_append_own _ rfl _ _ 24 rfl w.heap.size 58 i0 c0.val 5 5 Try.underlying24 hi hz0 hz1 hz2 rfl (by decide) _ _ _ rfl hraw ⟨g, 0, none⟩ n cap X rfl hln HC.out HONE.out (by unfold maxLen; omega) (by omega) (by rw [HZ.out]; omega) ?_; intro v' w5 hown' hgrow _; rw [Nat.zero_add, List.nil_append] at hown'; obtain ⟨g', cap', rfl, hg'⟩ := own_some hown' hp)
  go_ret
  exact ⟨g', cap', rfl, ownsRow_base hown' (Nat.zero_le _), hg', HB.out.grown hgrow (by rw [HZ.out]; omega) (fun k e => by cases e; exact Nat.le_refl _)⟩
theorem clone_done {w : World} {n : Nat} {g b g' cap' : Nat} {r c cur : Int} {L : List Cl} {w' : World} (hn : n = L.length) (h : PlAt w b g r c cur L) (ho : w'.ownsRow 0 58 5 (.slice (some ⟨g', 0, none⟩) n cap') n (flatC L)) (hg : w.heap.size ≤ g') (hb : Below w.heap.size w w') :
    PlAt (w'.alloc (.cells #[.int .i64 r, .int .i64 c, .slice (some ⟨g', 0, none⟩) n cap', .int .i64 cur] 106)) w'.heap.size g' r c cur L ∧ Below w.heap.size w (w'.alloc (.cells #[.int .i64 r, .int .i64 c, .slice (some ⟨g', 0, none⟩) n cap', .int .i64 cur] 106)) ∧ w.heap.size ≤ w'.heap.size ∧ w.heap.size ≤ g' := by
  subst hn
  exact ⟨⟨⟨cap', heap_alloc_new _ _, ho.alloc _⟩, h.pos, h.most, h.size⟩, hb.alloc hb.size _, hb.size, hg⟩
theorem below_undrew {w w1 : World} (h : Below w.drew.heap.size w.drew w1) : Below w.heap.size w w1 := ⟨h.os, h.tape, h.output, h.size, h.block⟩
set_option maxRecDepth 100000 in
set_option maxHeartbeats 4000000 in
theorem clone_any {w : World} {b g : Nat} {r c cur : Int} {L : List Cl} (h : PlAt w b g r c cur L) :
    Calls Try.prog 26 #[.pointer (some ⟨b, 0, none⟩)] w fun e w' => ∃ b' g', e = .returned (.pointer (some ⟨b', 0, none⟩)) ∧ PlAt w' b' g' r c cur L ∧ Below w.heap.size w w' ∧ w.heap.size ≤ b' ∧ w.heap.size ≤ g' := by
  obtain ⟨cap, p0, p1, p2, p3⟩ := h.cells
  have HH := Lib.hid h
  obtain ⟨n, hn⟩ : ∃ n, n = L.length := ⟨_, rfl⟩
  have HN := Lib.hid hn
  rw [← hn] at p2
  have HC : Hid (∀ W, PlAt W b g r c cur L → Calls Try.prog 67 #[.slice (some ⟨g, 0, none⟩) n cap] W fun e w' => ∃ g' cap', e = .returned (.slice (some ⟨g', 0, none⟩) n cap') ∧ w'.ownsRow 0 58 5 (.slice (some ⟨g', 0, none⟩) n cap') n (flatC L) ∧ W.heap.size ≤ g' ∧ Below W.heap.size W w') := by
    rw [hn]; exact fun W hW => cloneCells_any hW cap
  have HC2 := HC.out _ h.drew
  have HCL := Lib.hid HC2
  clear hn h HC2
  go_enter Try.func26, Try.ntmps26
  go_upto_region 3 with fail
  go_region_with (go_at_call 67; refine HCL.out.mono ?_; rintro e w1 ⟨g', cap', rfl, ho, hg, hb⟩; have k0 := cell_later hb p0; have k1 := cell_later hb p1; have k2 := cell_later hb p2; have k3 := cell_later hb p3; have HO := Lib.hid ho; have HB := Lib.hid hb; have HG := Lib.hid hg; clear ho hb hg)
  all_goals go_wp2
  all_goals go_ret
  all_goals exact ⟨_, _, rfl, clone_done HN.out HH.out HO.out HG.out (below_undrew HB.out)⟩
end Go.Proofs.Ytlcjiffnmpkndaa.Pl
