/-
  The loop over the options that are on; the statements' own example.
-/
import Derived.Test.YtkolhjglehnigaaOptD
namespace Go.Proofs.Ytkolhjglehnigaa.Opt
open Go.RowKit Go.Shelf Base
attribute [local go_sem] Oper.semAt_some
set_option linter.unusedVariables false

/-- The law of the loop over the options that are on. -/
theorem range_on {g : Operand} (p d : Nat) {assign body : Code} {Q : Exit → Act → World → Prop} {a : Act} {w : World} {n : Nat} (h1 : 2 ≤ n) (b bo bu : Nat) (M : Nat → Bool) (S : Nat → Nat) (ours : Bool)
    (hg : a.eval g = .func (.func 122) #[] #[.pointer (some ⟨bo, 0, none⟩), .pointer (some ⟨bu, 0, none⟩)]) (hit : It b bo bu M S ours w)
    (I : List Int → World → Prop) (Ix : Code → List Int → World → Prop) (hI : OwnFrom w.heap.size I) (hIx : ∀ c, OwnFrom w.heap.size (Ix c)) (h0 : I [] w)
    (hassign : ∀ (l : Nat) (x : Int) (W : World) (K : Act → World → Prop), K { tmps := (a.tmps.setIfInBounds p (.int .u8 x)).setIfInBounds d (.int .u8 x), defers := [] } W →
      assign.wpIn (Fence.wide.inRound l) (n - 1 - 1) Try.prog (Exit.then K (fun _ _ _ => False)) { tmps := a.tmps.setIfInBounds p (.int .u8 x), defers := [] } W)
    (hbody : ∀ (l : Nat) (pre : List Int) (x : Int) (W : World), I pre W → pre.length < 256 → body.wpIn (Fence.wide.inRound l) (n - 1 - 1) Try.prog (ownPostG w.heap.size (Keep3 b bo bu) I Ix (pre ++ [x]) W) { tmps := (a.tmps.setIfInBounds p (.int .u8 x)).setIfInBounds d (.int .u8 x), defers := [] } W)
    (hdone : ∀ (D : Nat) (W : World), w.heap.size ≤ D → I (onL S ours 256) W → W.heap[D]? = some (.deferred (some [])) → Q .normal { a with defers := { target := .collected D, args := #[] } :: a.defers } W)
    (hstop : ∀ (D : Nat) (c : Code) (pre : List Int) (W : World), w.heap.size ≤ D → pre <+: onL S ours 256 → Ix c pre W → W.heap[D]? = some (.deferred (some [])) → c.wpIn Fence.wide n Try.prog Q { a with defers := { target := .collected D, args := #[] } :: a.defers } W) :
    (Code.rangeFunc g #[p] assign body).wpIn Fence.wide n Try.prog Q a w := by
  have l1 := hit.opt.lt
  have l2 := World.block_lt_of_cell? _ _ hit.ptr
  have l3 := World.block_lt_of_cell? _ _ hit.our
  refine wpIn_rangeFunc_ownG rfl (by omega) (gf := 122) hg trivial (enters_of Try.func122 (by kernel_rfl) rfl) (all_stops (n - 1) (by omega) b bo bu M S ours w hit) Keep3.trans ?hKb (Below.refl _ _) (fun _ => rfl)
    I Ix hI hIx h0 (fun x => { tmps := (a.tmps.setIfInBounds p (.int .u8 x)).setIfInBounds d (.int .u8 x), defers := [] }) ?_ hbody ?_ hstop
  case hKb =>
    intro W l o o' hl ho _ _
    refine ⟨(grownBy_putObj' W l o').size, fun k hk => (grownBy_putObj' W l o').block k ?_ ?_⟩
    · have := (Array.getElem?_eq_some_iff.1 ho).1
      rcases hk with rfl | rfl | rfl
      · omega
      · exact Nat.lt_of_lt_of_le l2 (by omega)
      · exact Nat.lt_of_lt_of_le l3 (by omega)
    · intro e; cases e
      rcases hk with rfl | rfl | rfl
      · omega
      · exact absurd l2 (by show ¬ l < w.heap.size; omega)
      · exact absurd l3 (by show ¬ l < w.heap.size; omega)
  · intro l x W K hK
    rw [show ((#[p] : Array Tmp).zip #[Value.int .u8 x]).foldl (fun t (p, v) => t.setIfInBounds p v) a.tmps = a.tmps.setIfInBounds p (.int .u8 x) from by simp]
    exact hassign l x W K hK
  · rintro D ys W hD rfl hi hK
    exact hdone D W hD hi hK
/-! ### The statements' own example -/
/-- Options of the call's own, in block B. -/
structure OA (B : Nat) (w W : World) (M : Nat → Bool) (S : Nat → Nat) : Prop where
  opt : OptAt W B M S
  le : Le5 S
  old : Below w.heap.size w W
  new : w.heap.size ≤ B
section
variable {B : Nat} {w W : World} {M : Nat → Bool} {S : Nat → Nat}
theorem OA.turn {W' : World} {S' : Nat → Nat} (h : OA B w W M S) (o : OptAt W' B M S') (hl : Le5 S') (t : Turn (At B) W W') : OA B w W' M S' :=
  ⟨o, hl, h.old.trans (t.at_below h.old.size h.new), h.new⟩
theorem OA.below {W' : World} (h : OA B w W M S) (t : Below W.heap.size W W') : OA B w W' M S := ⟨h.opt.below t, h.le, h.old.trans (t.mono h.old.size), h.new⟩
def Off (B : Nat) (k : Nat) : Prop := k ≠ B
theorem got_st (c x : Int) (o : Nat) (ho : o < 256) (hx : x = o) (S' : Nat → Nat) (X : List Int) (h : OA B w W M S) (hS : (gotS M S c o).1 = S') (hX : (gotS M S c o).2 = X) :
    Calls Try.prog 85 #[.pointer (some ⟨B, 0, none⟩), .int .u8 c, .int .u8 x] W fun e W' => ∃ v, e = .returned v ∧ RowIn (Off B) .u8 W' v X ∧ OA B w W' M S' ∧ Turn (At B) W W' := by
  subst hS hX hx
  refine (got_any c o ho h.opt h.le).mono ?_
  rintro e W' ⟨v, rfl, hr, hO, ht⟩
  have := h.opt.lt
  exact ⟨v, rfl, hr.mono fun k hk => by unfold Off; omega, h.turn hO (gotS_le c o h.le) ht, ht⟩
theorem want_st (c x : Int) (o : Nat) (ho : o < 256) (hx : x = o) (S' : Nat → Nat) (X : List Int) (n : Nat) (h : OA B w W M S) (hS : (wantS S c o).1 = S') (hX : (wantS S c o).2 = (X, n)) :
    Calls Try.prog 30 #[.pointer (some ⟨B, 0, none⟩), .int .u8 c, .int .u8 x] W fun e W' => ∃ v, e = .returned (.tuple #[v, .int .i64 n]) ∧ RowIn (Off B) .u8 W' v X ∧ OA B w W' M S' ∧ Turn (At B) W W' := by
  subst hx
  refine (want_any c o ho h.opt h.le).mono ?_
  rintro e W' ⟨v, rfl, hr, hO, ht⟩
  subst hS
  rw [hX] at hr ⊢
  have := h.opt.lt
  exact ⟨v, rfl, hr.mono fun k hk => by unfold Off; omega, h.turn hO (wantS_le c o h.le) ht, ht⟩
theorem on_st (ours : Bool) (x : Int) (o : Nat) (ho : o < 256) (hx : x = o) (r : Bool) (h : OA B w W M S) (hr : decide (stOf S ours o = 1) = r) :
    Calls Try.prog 87 #[.pointer (some ⟨B, 0, none⟩), .bool ours, .int .u8 x] W fun e W' => e = .returned (.bool r) ∧ W = W' := by
  subst hx hr
  exact on_any ours o ho h.opt
theorem state_st (ours : Bool) (x : Int) (o : Nat) (ho : o < 256) (hx : x = o) (r : Int) (h : OA B w W M S) (hr : (stOf S ours o : Int) = r) :
    Calls Try.prog 32 #[.pointer (some ⟨B, 0, none⟩), .bool ours, .int .u8 x] W fun e W' => e = .returned (.int .i64 r) ∧ W = W' := by
  subst hx hr
  exact state_any ours o ho h.opt
theorem busy_st (r : Bool) (h : OA B w W M S) (hr : busyB S = r) : Calls Try.prog 33 #[.pointer (some ⟨B, 0, none⟩)] W fun e W' => e = .returned (.bool r) ∧ W = W' := by
  subst hr
  exact busy_any h.opt
theorem new_st (u v : Value) (X Y : List Int) (M : Nat → Bool) (hu : RowOf .u8 W u X) (hv : RowOf .u8 W v Y) (hA : IsBytes X) (hB : IsBytes Y) (ha : X.length ≤ maxLen) (hb : Y.length ≤ maxLen) (hM : mayM X Y = M) (hw : Below w.heap.size w W) :
    Calls Try.prog 28 #[u, v] W fun e W' => e = .returned (.pointer (some ⟨W.heap.size, 0, none⟩)) ∧ OA W.heap.size w W' M (fun _ => 0) ∧ Below W.heap.size W W' := by
  subst hM
  refine (new_any u v X Y W hu hv hA hB ha hb).mono ?_
  rintro e W' ⟨rfl, hO, hb, _⟩
  exact ⟨rfl, ⟨hO, fun _ => by omega, hw.trans (hb.mono hw.size), hw.size⟩, hb⟩
end
theorem row_one (W : World) (x : Int) (t : TypeId) : RowOf .u8 (W.alloc (.cells #[.int .u8 x] t)) (.slice (some ⟨W.heap.size, 0, none⟩) 1 1) [x] := by
  refine ⟨_, 1, rfl, fun _ => ⟨_, 0, rfl, fun i hi => ?_⟩⟩
  obtain rfl : i = 0 := by simpa using hi
  simp [go_sem]
def aM : Nat → Bool := mayM [25] [0]
def a0 : Nat → Nat := fun _ => 0
def a1 : Nat → Nat := (gotS aM a0 253 25).1
def a2 : Nat → Nat := (gotS aM a1 253 24).1
def a3 : Nat → Nat := (wantS a2 254 0).1
def a4 : Nat → Nat := (wantS a3 253 0).1
def a5 : Nat → Nat := (gotS aM a4 251 0).1
def a6 : Nat → Nat := (wantS a5 9 0).1
theorem g1 : (gotS aM a0 253 25).1 = a1 ∧ (gotS aM a0 253 25).2 = [255, 251, 25] := ⟨by with_unfolding_all rfl, by decide +kernel⟩
theorem g2 : (gotS aM a1 253 24).1 = a2 ∧ (gotS aM a1 253 24).2 = [255, 252, 24] := ⟨by with_unfolding_all rfl, by decide +kernel⟩
theorem g3 : (wantS a2 254 0).1 = a3 ∧ (wantS a2 254 0).2 = ([], 5) := ⟨by with_unfolding_all rfl, by decide +kernel⟩
theorem g4 : (wantS a3 253 0).1 = a4 ∧ (wantS a3 253 0).2 = ([255, 253, 0], 0) := ⟨by with_unfolding_all rfl, by decide +kernel⟩
theorem g5 : (gotS aM a4 251 0).1 = a5 ∧ (gotS aM a4 251 0).2 = [] := ⟨by with_unfolding_all rfl, by decide +kernel⟩
theorem g6 : (wantS a5 9 0).1 = a6 ∧ (wantS a5 9 0).2 = ([], 1) := ⟨by with_unfolding_all rfl, by decide +kernel⟩
theorem g7 : busyB a4 = true ∧ busyB a6 = false ∧ onL a5 true 256 = [25] ∧ stOf a6 false 0 = 1 ∧ stOf a6 true 25 = 1 ∧ stOf a6 true 24 = 0 := by decide +kernel
theorem g8 : ((stOf a6 true 24 : Nat) : Int) = 0 := by rw [g7.2.2.2.2.2]; simp
/-- What is summed up. -/
def sumw (pre : List Int) : Int := pre.foldl (fun s x => wrap64 (s + wrap64 x)) 0
set_option maxRecDepth 100000 in
set_option maxHeartbeats 4000000 in
theorem alive_in (m : Nat) (hm : 3 ≤ m) (w : World) :
    CallsIn Fence.wide m Try.prog 27 #[] w fun e W' => e = .returned (.bool true) ∧ Below w.heap.size w W' := by
  have h1 : 1 ≤ m := by omega
  refine callsIn_of_wp_marks Try.func27 rfl trivial ?_ rfl
  simp only [Try.ntmps27, List.size_toArray, List.length_nil, Nat.reduceSub, Array.replicate_succ, Array.replicate_zero, List.push_toArray, List.append_toArray, List.nil_append, List.cons_append]
  gi_wp2_with fail
  refine ⟨trivial, ?_⟩
  have r0 : RowOf .u8 ((w.alloc (.cells #[.int .u8 25] 5)).alloc (.cells #[.int .u8 0] 5)) (.slice (some ⟨w.heap.size, 0, none⟩) 1 1) [25] := (row_one w 25 _).below (below_alloc _ _)
  have r1 := row_one (w.alloc (.cells #[.int .u8 25] 5)) 0 5
  rw [World.size_alloc] at r1
  have hb0 : Below w.heap.size w ((w.alloc (.cells #[.int .u8 25] 5)).alloc (.cells #[.int .u8 0] 5)) := ((below_alloc w _).trans ((below_alloc _ _).mono (by simp)))
  refine (callsIn_wide.2 (new_st (w := w) _ _ [25] [0] aM r0 r1 (by intro x hx; simp at hx; omega) (by intro x hx; simp at hx; omega) (by simp [maxLen]) (by simp [maxLen]) rfl hb0)).mono ?_
  rintro e W1 ⟨rfl, T1, _⟩
  obtain ⟨B, hB⟩ : ∃ B, B = ((w.alloc (.cells #[.int .u8 25] 5)).alloc (.cells #[.int .u8 0] 5)).heap.size := ⟨_, rfl⟩
  rw [← hB] at T1 ⊢
  have T1 : OA B w W1 aM a0 := T1
  clear hB r0 r1 hb0
  gi_wp2_with fail
  refine ⟨trivial, ?_⟩
  with_reducible refine (callsIn_wide.2 (got_st (w := w) 253 25 25 (by omega) rfl a1 [255, 251, 25] T1 g1.1 g1.2)).mono ?_
  rintro e W2 ⟨v1, rfl, R1, T2, t2⟩
  clear T1 t2
  gi_wp2_with fail
  refine ⟨trivial, ?_⟩
  with_reducible refine (callsIn_wide.2 (got_st (w := w) 253 24 24 (by omega) rfl a2 [255, 252, 24] T2 g2.1 g2.2)).mono ?_
  rintro e W3 ⟨v2, rfl, R2, T3, t3⟩
  have R1 := R1.turn t3 fun b hb => hb
  clear T2 t3
  gi_wp2_with fail
  refine ⟨trivial, ?_⟩
  with_reducible refine (callsIn_wide.2 (want_st (w := w) 254 0 0 (by omega) rfl a3 [] 5 T3 g3.1 g3.2)).mono ?_
  rintro e W4 ⟨v3, rfl, R3, T4, t4⟩
  have R1 := R1.turn t4 fun b hb => hb
  have R2 := R2.turn t4 fun b hb => hb
  clear T3 t4
  gi_wp2_with fail
  refine ⟨trivial, ?_⟩
  with_reducible refine (callsIn_wide.2 (want_st (w := w) 253 0 0 (by omega) rfl a4 [255, 253, 0] 0 T4 g4.1 g4.2)).mono ?_
  rintro e W5 ⟨v4, rfl, R4, T5, t5⟩
  have R1 := R1.turn t5 fun b hb => hb
  have R2 := R2.turn t5 fun b hb => hb
  have R3 := R3.turn t5 fun b hb => hb
  clear T4 t5
  gi_wp2_with fail
  refine ⟨trivial, ?_⟩
  refine (callsIn_wide.2 (show Calls Try.prog 33 #[.pointer (some ⟨B, 0, none⟩)] W5 fun e W' => e = .returned (.bool true) ∧ W5 = W' from g7.1 ▸ busy_any T5.opt)).mono ?_
  rintro e W' ⟨rfl, rfl⟩
  gi_wp2_with fail
  refine ⟨trivial, ?_⟩
  with_reducible refine (callsIn_wide.2 (got_st (w := w) 251 0 0 (by omega) rfl a5 [] T5 g5.1 g5.2)).mono ?_
  rintro e W6 ⟨v5, rfl, R5, T6, t6⟩
  have R1 := R1.turn t6 fun b hb => hb
  have R2 := R2.turn t6 fun b hb => hb
  have R3 := R3.turn t6 fun b hb => hb
  have R4 := R4.turn t6 fun b hb => hb
  clear T5 t6
  gi_wp2_with fail
  refine ⟨trivial, ?_⟩
  refine (callsIn_wide.2 (oall_any B true _)).mono ?_
  rintro e W' ⟨rfl, rfl⟩
  rw [World.size_alloc]
  gi_wp2_with fail
  obtain ⟨K, hK⟩ : ∃ K, K = W6.heap.size := ⟨_, rfl⟩
  have hBK : B < K := by rw [hK]; exact T6.opt.lt
  have hwK : w.heap.size ≤ K := by rw [hK]; exact T6.old.size
  rw [← hK]
  obtain ⟨W0, hW0⟩ : ∃ W0, W0 = ((W6.alloc (.cells #[.int .i64 0] 3)).alloc (.cells #[.pointer (some ⟨B, 0, none⟩)] 43)).alloc (.cells #[.bool true] 4) := ⟨_, rfl⟩
  have hz : W0.heap.size = K + 3 := by rw [hW0, hK]; simp
  have hb6 : Below W6.heap.size W6 W0 := by rw [hW0]; exact ((below_alloc W6 _).trans ((below_alloc _ _).mono (by simp))).trans ((below_alloc _ _).mono (by simp; omega))
  have f0 : Boxed W0 K 3 (.int .i64 0) := by rw [hW0, hK]; exact ((Boxed.new W6 _ _).alloc _).alloc _
  have f1 : W0.cell? ⟨K + 1, 0, none⟩ = some (.pointer (some ⟨B, 0, none⟩)) := by rw [hW0, hK]; simp [go_sem]
  have f2 : W0.cell? ⟨K + 1 + 1, 0, none⟩ = some (.bool true) := by rw [hW0, hK]; simp [go_sem]
  have T0 := T6.below hb6
  have Q1 := R1.low.below hb6
  rw [← hK] at Q1
  have Q2 := R2.low.below hb6
  rw [← hK] at Q2
  have Q3 := R3.low.below hb6
  rw [← hK] at Q3
  have Q4 := R4.low.below hb6
  rw [← hK] at Q4
  have Q5 := R5.low.below hb6
  rw [← hK] at Q5
  rw [← hW0]
  have HZ := Lib.hid hz
  clear hW0 hz hb6 hK R1 R2 R3 R4 R5 T6
  refine range_on 39 11 (n := m) (by omega) B (K + 1) (K + 1 + 1) aM a5 true rfl ⟨T0.opt, f1, f2⟩
    (fun pre W => Boxed W K 3 (.int .i64 (sumw pre)) ∧ Turn (At K) W0 W) (fun _ _ _ => False) ?hI (fun c k X Y row h _ _ => h) ⟨f0, Turn.refl _ _⟩ ?assign ?body ?done ?stop
  case hI =>
    rintro pre X Y row ⟨hb, ht⟩ hg hr
    have := HZ.out
    exact ⟨hb.kept hg (fun e => by have := (hr K e.symm).1; omega), ht.grown hg (fun k e => .inl (hr k e).1)⟩
  case assign =>
    intro l x W K' hK
    gi_wp2
    exact hK
  case body =>
    rintro l pre x W ⟨hb, ht⟩ _
    have hc := hb.cell
    have hf := hb.frozen
    have hset : Boxed (W.setCell ⟨K, 0, none⟩ (.int .i64 (sumw (pre ++ [x])))) K 3 (.int .i64 (sumw (pre ++ [x]))) := hb.set _
    have hkeep : KeepsFrom W0.heap.size W (W.setCell ⟨K, 0, none⟩ (.int .i64 (sumw (pre ++ [x])))) := (KeepsOthers.setCell W _ _).from _
    have ht2 := ht.trans (turn_set W K 0 (.int .i64 (sumw (pre ++ [x]))))
    have hsum : sumw (pre ++ [x]) = wrap64 (sumw pre + wrap64 x) := by simp [sumw]
    have hk3 : Keep3 B (K + 1) (K + 1 + 1) W (W.setCell ⟨K, 0, none⟩ (.int .i64 (sumw (pre ++ [x])))) := ⟨by simp, fun k hk => Below.heap_setCell _ _ _ _ (by show k ≠ K; omega)⟩
    have HA := Lib.hid hset
    have HB := Lib.hid hkeep
    have HC := Lib.hid ht2
    have HD := Lib.hid hk3
    clear hset hkeep ht2 hk3 hb ht
    rw [hsum] at HA HB HC HD
    clear hsum
    gi_wp2
    refine ⟨HB.out, HD.out, ?_, HC.out⟩
    rw [show sumw (pre ++ [x]) = wrap64 (sumw pre + wrap64 x) by simp [sumw]]
    exact HA.out
  case done =>
    rintro D W hD ⟨b0, ht⟩ hK
    rw [g7.2.2.1] at b0
    rw [show sumw [25] = 25 from by decide +kernel] at b0
    have hKl := b0.lt
    have TB : Below w.heap.size W0 W := ht.at_below (by have := HZ.out; omega) hwK
    have T : OA B w W aM a5 := ⟨T0.opt.keep ht (by unfold At; omega), T0.le, T0.old.trans TB, T0.new⟩
    have Q1 := Q1.turn ht (fun b hb => by unfold At; omega)
    have Q2 := Q2.turn ht (fun b hb => by unfold At; omega)
    have Q3 := Q3.turn ht (fun b hb => by unfold At; omega)
    have Q4 := Q4.turn ht (fun b hb => by unfold At; omega)
    have Q5 := Q5.turn ht (fun b hb => by unfold At; omega)
    have HK := Lib.hid hK
    have HZ2 := Lib.hid ht.size
    clear ht TB T0 f0 f1 f2 hK
    gi_wp2_with fail
    refine ⟨trivial, ?_⟩
    with_reducible refine (callsIn_wide.2 (want_st (w := w) 9 0 0 (by omega) rfl a6 [] 1 T g6.1 g6.2)).mono ?_
    rintro e W7 ⟨v6, rfl, R6, T7, t7⟩
    have b7 : W7.cell? ⟨K, 0, none⟩ = some (.int .i64 25) := (cell_block (t7.block K hKl (by unfold At; omega)) 0).trans b0.cell
    have Q1 := (Q1.turn t7 (fun b hb => hb.1)).row
    have Q2 := (Q2.turn t7 (fun b hb => hb.1)).row
    have Q3 := (Q3.turn t7 (fun b hb => hb.1)).row
    have Q4 := (Q4.turn t7 (fun b hb => hb.1)).row
    have Q5 := (Q5.turn t7 (fun b hb => hb.1)).row
    have s1 := row_str Q1
    have s2 := row_str Q2
    have s4 := row_str Q4
    obtain ⟨a3, c3, rfl, _⟩ := Q3
    obtain ⟨a5', c5, rfl, _⟩ := Q5
    have HK7 := Lib.hid ((t7.block D (lt_of_block HK.out) (by unfold At; have := HZ.out; omega)).trans HK.out)
    rw [show strOfNums [255, 251, 25] = ⟨#[255, 251, 25]⟩ from by with_unfolding_all rfl] at s1
    rw [show strOfNums [255, 252, 24] = ⟨#[255, 252, 24]⟩ from by with_unfolding_all rfl] at s2
    rw [show strOfNums [255, 253, 0] = ⟨#[255, 253, 0]⟩ from by with_unfolding_all rfl] at s4
    clear Q1 Q2 Q4 b0 t7 R6 T HK
    gi_wp2_with fail
    refine ⟨trivial, ?_⟩
    with_reducible refine (callsIn_wide.2 (on_st (w := w) false 0 0 (by omega) rfl true T7 (decide_eq_true g7.2.2.2.1))).mono ?_
    rintro e W' ⟨rfl, rfl⟩
    gi_wp2_with fail
    refine ⟨trivial, ?_⟩
    with_reducible refine (callsIn_wide.2 (on_st (w := w) true 25 25 (by omega) rfl true T7 (decide_eq_true g7.2.2.2.2.1))).mono ?_
    rintro e W' ⟨rfl, rfl⟩
    gi_wp2_with fail
    refine ⟨trivial, ?_⟩
    with_reducible refine (callsIn_wide.2 (state_st (w := w) true 24 24 (by omega) rfl 0 T7 g8)).mono ?_
    rintro e W' ⟨rfl, rfl⟩
    gi_wp2_with fail
    refine ⟨trivial, ?_⟩
    with_reducible refine (callsIn_wide.2 (busy_st (w := w) false T7 g7.2.1)).mono ?_
    rintro e W' ⟨rfl, rfl⟩
    gi_wp2
    refine ⟨by simp, .inl ⟨_, _, rfl, run_takeDeferred HK7.out, ?_⟩⟩
    refine ⟨_, results_tmp rfl _ _ _, rfl, ?_⟩
    exact T7.old.trans ((Below.refl _ _).grown (grownBy_putObj' _ D _) T7.old.size (fun r e => by cases e; have := HZ.out; omega))
  case stop =>
    rintro D c pre W hD hpre h
    exact h.elim
/-- The statements' own example holds. -/
theorem alive_any (w : World) : Calls Try.prog 27 #[] w fun e W' => e = .returned (.bool true) ∧ Below w.heap.size w W' :=
  callsIn_wide.1 (alive_in 3 (Nat.le_refl _) w)
end Go.Proofs.Ytkolhjglehnigaa.Opt
