/-
  Contracts of package typing: a place's field, the places of its row.
-/
import Derived.Test.YtlcjiffnmpkndaaCaE
import Derived.Test.YtlcjiffnmpkndaaWpA
import Derived.Sort.CutIn
namespace Go.Proofs.Ytlcjiffnmpkndaa.Pl
open Go.RowKit Go.Shelf Base
attribute [local go_sem] Oper.semAt_some
set_option linter.unusedVariables false
set_option linter.unusedSimpArgs false

theorem yield_deep {F : Fence} (hd : F.depth = none) {m : Nat} (m' : Nat) {P : Program} {l : Nat} {args : Array Value} {W : World} {R : Ending → World → Prop} (h : YieldAt F m P l args W R) : YieldAt F m' P l args W R := by
  obtain ⟨fn, tmps, assign, body, hy, hR⟩ := h
  exact ⟨fn, tmps, assign, body, hy, ⟨hR.1, fun c cs _ => hR.2 c cs (fun d h => by rw [hd] at h; cases h)⟩⟩
theorem round_in {F : Fence} {n : Nat} {P : Program} {l : Nat} {f : FuncId} {tmps : Array Value} {assign body : Code} {w : World} {R : Ending → World → Prop} (l' : Nat)
    (h : RoundIn F n P l f tmps assign body w R) : RoundIn (F.inRound l') n P l f tmps assign body w R := h
theorem round_one {F : Fence} {n : Nat} {P : Program} {l : Nat} {f : FuncId} {tmps : Array Value} {assign body : Code} {w : World} {A B : World → Prop}
    (h : RoundIn F n P l f tmps assign body w fun e W' => (e = .returned (.bool true) ∧ A W') ∨ (e = .returned (.bool false) ∧ B W')) : RoundIn F n P l f tmps assign body w fun e W' => ∃ v : Bool, e = .returned (.bool v) ∧ (v = true → A W') ∧ (v = false → B W') := by
  refine RoundIn.mono h ?_
  rintro e W' (⟨rfl, h⟩ | ⟨rfl, h⟩)
  · exact ⟨true, rfl, fun _ => h, fun e => by cases e⟩
  · exact ⟨false, rfl, fun e => (by cases e), fun _ => h⟩
/-! ### A place's field -/
def wholeF (L : List Cl) (a : Int) : Fd := if isF L a = true then ofF L a else ⟨(L.length : Int) - 1, L.length, 0⟩
section
variable {w : World} {b g : Nat} {r c cur : Int} {L : List Cl}
set_option maxHeartbeats 1000000 in
theorem whole_any (h : PlAt w b g r c cur L) (a : Int) (hbo : BoL L) : Calls Try.prog 125 #[.pointer (some ⟨b, 0, none⟩), .int .i64 a] w fun e W => e = .returned (wholeF L a).val ∧ Below w.heap.size w W := by
  have hm := h.most
  have hps := h.pos
  obtain ⟨z, hz⟩ : ∃ z, z = isF L a := ⟨_, rfl⟩
  obtain ⟨⟨fs, fk, fa⟩, hf⟩ : ∃ f, f = ofF L a := ⟨_, rfl⟩
  have HOF : Calls Try.prog 50 #[.pointer (some ⟨b, 0, none⟩), .int .i64 a] (w.alloc (.cells #[.int .i64 0, .int .i64 0, .int .u8 0] 74)) fun e W => e = .returned (.tuple #[(Fd.mk fs fk fa).val, .bool z]) ∧ Below (w.alloc (.cells #[.int .i64 0, .int .i64 0, .int .u8 0] 74)).heap.size (w.alloc (.cells #[.int .i64 0, .int .i64 0, .int .u8 0] 74)) W := by
    rw [hz, hf]; exact of_any (h.alloc _) a hbo
  have hw : wholeF L a = if z = true then ⟨fs, fk, fa⟩ else ⟨(L.length : Int) - 1, L.length, 0⟩ := by unfold wholeF; rw [← hz, ← hf]
  rw [hw]
  have HH := Lib.hid (h.alloc (.cells #[.int .i64 0, .int .i64 0, .int .u8 0] 74))
  have b0 := Lib.hid (below_alloc w (.cells #[.int .i64 0, .int .i64 0, .int .u8 0] 74))
  have n0 := Lib.hid (heap_alloc_new w (.cells #[.int .i64 0, .int .i64 0, .int .u8 0] 74))
  obtain ⟨W0, hW0⟩ : ∃ W0, W0 = w.alloc (.cells #[.int .i64 0, .int .i64 0, .int .u8 0] 74) := ⟨_, rfl⟩
  rw [← hW0] at HOF HH b0 n0
  have HF := Lib.hid HOF
  have HW0 := Lib.hid hW0.symm
  have hs0 : Hid (W0.heap.size = w.heap.size + 1) := Lib.hid (by rw [hW0, World.size_alloc])
  obtain ⟨n, hn⟩ : ∃ n, n = L.length := ⟨_, rfl⟩
  have HLE := Lib.hid (fun (X : World) (hX : Below W0.heap.size W0 X) => len_any (HH.out.below hX))
  rw [← hn] at HLE hm hps ⊢
  have hn1 : (1 : Int) ≤ (n : Int) := by omega
  have hn2 : (n : Int) ≤ 4096 := by omega
  clear h hbo hz hf HOF hw hW0 hn
  go_enter Try.func125, Try.ntmps125
  go_upto_region 1 with fail
  rw [HW0.out]
  go_upto_region 2 with (go_at_call 50; (with_reducible refine HF.out.mono ?_); rintro e w1 ⟨rfl, hb1⟩; have B1 := Lib.hid hb1; clear hb1)
  have c1 := (B1.out.block w.heap.size (lt_of_block n0.out)).trans n0.out
  have hba := below_alloc w1 (.cells #[.int .i64 fs, .int .i64 fk, .int .u8 fa] 74)
  have c2 := (hba.block w.heap.size (lt_of_block c1)).trans c1
  have c3 := heap_alloc_new w1 (.cells #[.int .i64 fs, .int .i64 fk, .int .u8 fa] 74)
  obtain ⟨W2, hW2⟩ : ∃ W2, W2 = w1.alloc (.cells #[.int .i64 fs, .int .i64 fk, .int .u8 fa] 74) := ⟨_, rfl⟩
  rw [← hW2] at hba c2 c3 ⊢
  have B2 := Lib.hid (B1.out.trans (hba.mono B1.out.size))
  have k0 : W2.cell? ⟨w1.heap.size, 0, none⟩ = some (.int .i64 fs) := by simp [World.cell?, c3]
  have k1 : W2.cell? ⟨w1.heap.size, 1, none⟩ = some (.int .i64 fk) := by simp [World.cell?, c3]
  have k2 : W2.cell? ⟨w1.heap.size, 2, none⟩ = some (.int .u8 fa) := by simp [World.cell?, c3]
  have d0 : W2.cell? ⟨w.heap.size, 0, none⟩ = some (.int .i64 0) := by simp [World.cell?, c2]
  have d1 : W2.cell? ⟨w.heap.size, 1, none⟩ = some (.int .i64 0) := by simp [World.cell?, c2]
  have d2 : W2.cell? ⟨w.heap.size, 2, none⟩ = some (.int .u8 0) := by simp [World.cell?, c2]
  have d3 : ∀ o, W2.frozen? ⟨w.heap.size, o, none⟩ = false := fun o => by simp [World.frozen?, c2]
  have C2 := Lib.hid c2
  clear hba hW2 c1 c2 c3
  have fin : ∀ (x y z : Int) (W : World), W.heap[w.heap.size]? = some (.cells #[.int .i64 0, .int .i64 0, .int .u8 0] 74 (0, 0)) → Below w.heap.size w W → (((W.setCell ⟨w.heap.size, 0, none⟩ (.int .i64 x)).setCell ⟨w.heap.size, 1, none⟩ (.int .i64 y)).setCell ⟨w.heap.size, 2, none⟩ (.int .u8 z)).heap[w.heap.size]? = some (.cells #[.int .i64 x, .int .i64 y, .int .u8 z] 74 (0, 0)) ∧ Below w.heap.size w (((W.setCell ⟨w.heap.size, 0, none⟩ (.int .i64 x)).setCell ⟨w.heap.size, 1, none⟩ (.int .i64 y)).setCell ⟨w.heap.size, 2, none⟩ (.int .u8 z)) := by
    intro x y z W h hb
    refine ⟨by rw [heap_set (heap_set (heap_set h 0 _) 1 _) 2 _]; simp, ?_⟩
    exact hb.trans (((turn_set W w.heap.size 0 _).trans ((turn_set _ w.heap.size 1 _).trans (turn_set _ w.heap.size 2 _))).at_below hb.size (Nat.le_refl _))
  have HFIN := Lib.hid fin
  clear fin
  have B3 : Hid (Below w.heap.size w W2) := Lib.hid (b0.out.trans (B2.out.mono (by have := hs0.out; omega)))
  cases z with
  | true =>
    go_wp2
    obtain ⟨f1, f2⟩ := HFIN.out fs fk fa W2 C2.out B3.out
    exact bodyPost_ret (results_cell_row rfl _ _ w.heap.size 74 _ (0, 0) _ rfl f1 Try.underlying74 rfl size_fd) rfl ⟨by simp, f2⟩
  | false =>
    go_wp2_with (go_at_call 39; (with_reducible refine (HLE.out _ B2.out).mono ?_); rintro e w' ⟨rfl, rfl⟩)
    obtain ⟨f1, f2⟩ := HFIN.out ((n : Int) - 1) n 0 W2 C2.out B3.out
    exact bodyPost_ret (results_cell_row rfl _ _ w.heap.size 74 _ (0, 0) _ rfl f1 Try.underlying74 rfl size_fd) rfl ⟨by simp, f2⟩
theorem row_any (w : World) (b : Nat) (a : Int) : Calls Try.prog 95 #[.pointer (some ⟨b, 0, none⟩), .int .i64 a] w fun e W =>
    e = .returned (.func (.func 123) #[] #[.pointer (some ⟨w.heap.size, 0, none⟩), .pointer (some ⟨w.heap.size + 1, 0, none⟩)]) ∧ BackIt W w.heap.size (w.heap.size + 1) b a ∧ Below w.heap.size w W ∧ W.heap.size = w.heap.size + 2 := by
  go_enter Try.func95, Try.ntmps95
  go_wp2
  go_ret
  have e0 := heap_alloc_new w (.cells #[.pointer (some ⟨b, 0, none⟩)] 27)
  have e1 := heap_alloc_new (w.alloc (.cells #[.pointer (some ⟨b, 0, none⟩)] 27)) (.cells #[.int .i64 a] 3)
  simp only [World.size_alloc] at e1
  refine ⟨rfl, ⟨?_, e1⟩, (below_alloc w _).alloc (by simp) _, by simp⟩
  rw [Below.heap_alloc _ _ _ (by simp)]; exact e0
end
end Go.Proofs.Ytlcjiffnmpkndaa.Pl
