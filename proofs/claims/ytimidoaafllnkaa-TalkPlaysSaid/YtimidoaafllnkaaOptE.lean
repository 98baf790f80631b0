/-
  The loop over the options that are on; the statements' own example.
-/
import Derived.Test.YtimidoaafllnkaaOptD
namespace Go.Proofs.Ytimidoaafllnkaa.Opt
open Go.RowKit Go.Shelf Base
attribute [local go_sem] Oper.semAt_some
set_option linter.unusedVariables false

/-! ### The statements' own example -/
/-- Options of the call's own, in block B. -/
structure OA (B : Nat) (w W : World) (M : Nat → Bool) (S : Nat → Nat) : Prop where
  opt : OptAt W B M S
  le : Le5 S
  old : Below w.heap.size w W
  new : w.heap.size ≤ B
section
variable {B : Nat} {w W : World} {M : Nat → Bool} {S : Nat → Nat}
theorem OA.turn {W' : World} {S' : Nat → Nat} (h : OA B w W M S) (o : OptAt W' B M S') (hl : Le5 S') (t : Turn (At B) W W') : OA B w W' M S' :=
  ⟨o, hl, h.old.trans (t.at_below h.old.size h.new), h.new⟩
theorem OA.below {W' : World} (h : OA B w W M S) (t : Below W.heap.size W W') : OA B w W' M S := ⟨h.opt.below t, h.le, h.old.trans (t.mono h.old.size), h.new⟩
def Off (B : Nat) (k : Nat) : Prop := k ≠ B
theorem got_st (c x : Int) (o : Nat) (ho : o < 256) (hx : x = o) (S' : Nat → Nat) (X : List Int) (h : OA B w W M S) (hS : (gotS M S c o).1 = S') (hX : (gotS M S c o).2 = X) :
    Calls Try.prog 72 #[.pointer (some ⟨B, 0, none⟩), .int .u8 c, .int .u8 x] W fun e W' => ∃ v, e = .returned v ∧ RowIn (Off B) .u8 W' v X ∧ OA B w W' M S' ∧ Turn (At B) W W' := by
  subst hS hX hx
  refine (got_any c o ho h.opt h.le).mono ?_
  rintro e W' ⟨v, rfl, hr, hO, ht⟩
  have := h.opt.lt
  exact ⟨v, rfl, hr.mono fun k hk => by unfold Off; omega, h.turn hO (gotS_le c o h.le) ht, ht⟩
theorem want_st (c x : Int) (o : Nat) (ho : o < 256) (hx : x = o) (S' : Nat → Nat) (X : List Int) (n : Nat) (h : OA B w W M S) (hS : (wantS S c o).1 = S') (hX : (wantS S c o).2 = (X, n)) :
    Calls Try.prog 76 #[.pointer (some ⟨B, 0, none⟩), .int .u8 c, .int .u8 x] W fun e W' => ∃ v, e = .returned (.tuple #[v, .int .i64 n]) ∧ RowIn (Off B) .u8 W' v X ∧ OA B w W' M S' ∧ Turn (At B) W W' := by
  subst hx
  refine (want_any c o ho h.opt h.le).mono ?_
  rintro e W' ⟨v, rfl, hr, hO, ht⟩
  subst hS
  rw [hX] at hr ⊢
  have := h.opt.lt
  exact ⟨v, rfl, hr.mono fun k hk => by unfold Off; omega, h.turn hO (wantS_le c o h.le) ht, ht⟩
theorem on_st (ours : Bool) (x : Int) (o : Nat) (ho : o < 256) (hx : x = o) (r : Bool) (h : OA B w W M S) (hr : decide (stOf S ours o = 1) = r) :
    Calls Try.prog 74 #[.pointer (some ⟨B, 0, none⟩), .bool ours, .int .u8 x] W fun e W' => e = .returned (.bool r) ∧ W = W' := by
  subst hx hr
  exact on_any ours o ho h.opt
theorem state_st (ours : Bool) (x : Int) (o : Nat) (ho : o < 256) (hx : x = o) (r : Int) (h : OA B w W M S) (hr : (stOf S ours o : Int) = r) :
    Calls Try.prog 39 #[.pointer (some ⟨B, 0, none⟩), .bool ours, .int .u8 x] W fun e W' => e = .returned (.int .i64 r) ∧ W = W' := by
  subst hx hr
  exact state_any ours o ho h.opt
theorem new_st (u v : Value) (X Y : List Int) (M : Nat → Bool) (hu : RowOf .u8 W u X) (hv : RowOf .u8 W v Y) (hA : IsBytes X) (hB : IsBytes Y) (ha : X.length ≤ maxLen) (hb : Y.length ≤ maxLen) (hM : mayM X Y = M) (hw : Below w.heap.size w W) :
    Calls Try.prog 69 #[u, v] W fun e W' => e = .returned (.pointer (some ⟨W.heap.size, 0, none⟩)) ∧ OA W.heap.size w W' M (fun _ => 0) ∧ Below W.heap.size W W' := by
  subst hM
  refine (new_any u v X Y W hu hv hA hB ha hb).mono ?_
  rintro e W' ⟨rfl, hO, hb, _⟩
  exact ⟨rfl, ⟨hO, fun _ => by omega, hw.trans (hb.mono hw.size), hw.size⟩, hb⟩
end
theorem row_one (W : World) (x : Int) (t : TypeId) : RowOf .u8 (W.alloc (.cells #[.int .u8 x] t)) (.slice (some ⟨W.heap.size, 0, none⟩) 1 1) [x] := by
  refine ⟨_, 1, rfl, fun _ => ⟨_, 0, rfl, fun i hi => ?_⟩⟩
  obtain rfl : i = 0 := by simpa using hi
  simp [go_sem]
def aM : Nat → Bool := mayM [25] [0]
def a0 : Nat → Nat := fun _ => 0
def a1 : Nat → Nat := (gotS aM a0 253 25).1
def a2 : Nat → Nat := (gotS aM a1 253 24).1
def a3 : Nat → Nat := (wantS a2 254 0).1
def a4 : Nat → Nat := (wantS a3 253 0).1
def a5 : Nat → Nat := (gotS aM a4 251 0).1
def a6 : Nat → Nat := (wantS a5 9 0).1
theorem g1 : (gotS aM a0 253 25).1 = a1 ∧ (gotS aM a0 253 25).2 = [255, 251, 25] := ⟨by with_unfolding_all rfl, by decide +kernel⟩
theorem g2 : (gotS aM a1 253 24).1 = a2 ∧ (gotS aM a1 253 24).2 = [255, 252, 24] := ⟨by with_unfolding_all rfl, by decide +kernel⟩
theorem g3 : (wantS a2 254 0).1 = a3 ∧ (wantS a2 254 0).2 = ([], 5) := ⟨by with_unfolding_all rfl, by decide +kernel⟩
theorem g4 : (wantS a3 253 0).1 = a4 ∧ (wantS a3 253 0).2 = ([255, 253, 0], 0) := ⟨by with_unfolding_all rfl, by decide +kernel⟩
theorem g5 : (gotS aM a4 251 0).1 = a5 ∧ (gotS aM a4 251 0).2 = [] := ⟨by with_unfolding_all rfl, by decide +kernel⟩
theorem g6 : (wantS a5 9 0).1 = a6 ∧ (wantS a5 9 0).2 = ([], 1) := ⟨by with_unfolding_all rfl, by decide +kernel⟩
theorem g7 : busyB a4 = true ∧ busyB a6 = false ∧ onL a5 true 256 = [25] ∧ stOf a6 false 0 = 1 ∧ stOf a6 true 25 = 1 ∧ stOf a6 true 24 = 0 := by decide +kernel
theorem g8 : ((stOf a6 true 24 : Nat) : Int) = 0 := by rw [g7.2.2.2.2.2]; simp
/-- What is summed up. -/
def sumw (pre : List Int) : Int := pre.foldl (fun s x => wrap64 (s + wrap64 x)) 0
end Go.Proofs.Ytimidoaafllnkaa.Opt
