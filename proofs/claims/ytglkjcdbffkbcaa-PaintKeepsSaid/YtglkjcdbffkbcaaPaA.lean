/-
  Orders done, plainly: what the brush holds, what each order does; the brush in memory.
-/
import Derived.Test.YtglkjcdbffkbcaaPlOr
import Derived.Test.YtglkjcdbffkbcaaFlE
import Derived.Test.YtglkjcdbffkbcaaAttrD
import Derived.Deep.RegionHeld3
namespace Go.Proofs.Ytglkjcdbffkbcaa.Pl
open Go.RowKit Go.Shelf Base
set_option linter.unusedVariables false
set_option linter.unusedSimpArgs false

def toA (x : Cl) : Attr.Cl := ⟨x.b, x.ge, x.st, x.li, x.co⟩
def ofA (x : Attr.Cl) : Cl := ⟨x.b, x.ge, x.st, x.li, x.co⟩
/-- A cell with pairs. -/
def dressP (x : Cl) (ps : List (Int × Int)) : Cl := ofA (Attr.dress (toA x) ps)
/-- What orders are done with: the cells, the cursor, the place, the look, whether signs were laid. -/
structure Bs where
  M : List Cl
  cur : Int
  p : Int
  look : Cl
  laid : Bool
def Bs.chr (B : Bs) (y : Int) (ge : Bool) : Cl := ⟨y, ge, false, B.look.li, B.look.co⟩
def Bs.lay (B : Bs) (x : Cl) : Bs := { B with M := setL B.M B.p x, p := mv B.M.length B.p 1 }
def Bs.data (B : Bs) (d : List Int) : Bs := d.foldl (fun B y => B.lay (B.chr y false)) B
/-- Cells let go up to the first attribute. -/
def tabWipe (M : List Cl) : List Int → List Cl
  | [] => M
  | p :: ps => if (atL M p).st then M else tabWipe (setL M p c0) ps
def tabGood (M : List Cl) (p : Int) : Bool := (atL M p).st && !Attr.prot (atL M p).b
def tabTo (M : List Cl) (ps : List Int) : Int := match ps.find? (tabGood M) with
  | some p => mv M.length p 1
  | none => 0
def Bs.tabM (B : Bs) : List Cl := if B.laid then tabWipe B.M (betw B.M.length B.p 0) else B.M
def Bs.tab (B : Bs) : Bs := { B with M := B.tabM, p := tabTo B.tabM (betw B.M.length B.p 0) }
/-- Open cells let go: the cells, and whether something may be typed there. -/
def eraStep (Z : List Cl × Bool) (p : Int) : List Cl × Bool := if (atL Z.1 p).st then (Z.1, !Attr.prot (atL Z.1 p).b) else if Z.2 then (setL Z.1 p c0, true) else Z
def eraL (M : List Cl) (op : Bool) (ps : List Int) : List Cl × Bool := ps.foldl eraStep (M, op)
def Bs.opn (B : Bs) : Bool := !isF B.M B.p || !Attr.prot (ofF B.M B.p).a
def Bs.erase (B : Bs) (z : Int) : Bs := { B with M := (eraL B.M B.opn (betw B.M.length B.p z)).1, p := z }
def Bs.ra (B : Bs) (z y : Int) (ge : Bool) : Bs := { B with M := fillL B.M (betw B.M.length B.p z) (B.chr y ge), p := z }
def cS : Cl := ⟨0, false, true, 0, 0⟩
/-- An order, done: the brush behind it, the error's number. -/
def deedB (B : Bs) (o : Or) : Bs × Int :=
  if o.kind = 0 then (B.data o.data, 0)
  else if o.kind = 5 then (B.tab, 0)
  else if o.kind = 8 then (B.lay (B.chr o.byte true), 0)
  else if o.kind = 17 then (if hasL B.M o.addr then ({ B with p := o.addr }, 0) else (B, 32))
  else if o.kind = 18 then (if hasL B.M o.addr then (B.erase o.addr, 0) else (B, 32))
  else if o.kind = 19 then ({ B with cur := B.p }, 0)
  else if o.kind = 29 then (B.lay ⟨o.byte % 64, false, true, 0, 0⟩, 0)
  else if o.kind = 41 then (B.lay (dressP cS o.pairs), 0)
  else if o.kind = 40 then ({ B with look := dressP B.look o.pairs }, 0)
  else if o.kind = 44 then (if (atL B.M B.p).st then (B.lay (dressP (atL B.M B.p) o.pairs), 0) else (B, 31))
  else if o.kind = 60 then (if hasL B.M o.addr then (B.ra o.addr o.byte o.ge, 0) else (B, 32))
  else (B, 31)
def knownK (k : Int) : Bool := decide (k = 0 ∨ k = 5 ∨ k = 8 ∨ k = 17 ∨ k = 18 ∨ k = 19 ∨ k = 29 ∨ k = 41 ∨ k = 40 ∨ k = 44 ∨ k = 60)
def laidB (o : Or) : Bool := decide (o.kind = 8) || (decide (o.kind = 0) && decide (0 < o.data.length))
def doB (B : Bs) (o : Or) : Bs × Int := if knownK o.kind then ({ (deedB B o).1 with laid := laidB o }, (deedB B o).2) else (B, 31)
/-- Orders, done: the brush behind them, how many, the error's number. -/
def runB : Bs → List Or → Nat → Bs × Nat × Int
  | B, [], i => (B, i, 0)
  | B, o :: os, i => if (doB B o).2 = 0 then runB (doB B o).1 os (i + 1) else ((doB B o).1, i, (doB B o).2)
/-- The brush in memory, in block s. -/
structure BrAt (W : World) (s b g : Nat) (r c : Int) (B : Bs) : Prop where
  pl : PlAt W b g r c B.cur B.M
  bx : W.heap[s]? = some (.cells #[.pointer (some ⟨b, 0, none⟩), .int .i64 B.p, .int .u8 B.look.b, .bool B.look.ge, .bool B.look.st, .int .u8 B.look.li, .int .u8 B.look.co, .bool B.laid] 117 (0, 0))
  p0 : 0 ≤ B.p
  p1 : B.p < B.M.length
section
variable {W W' : World} {s b g : Nat} {r c : Int} {B : Bs}
theorem BrAt.below (h : BrAt W s b g r c B) (t : Below W.heap.size W W') : BrAt W' s b g r c B :=
  ⟨h.pl.below t, (t.block _ (lt_of_block h.bx)).trans h.bx, h.p0, h.p1⟩
theorem BrAt.drew (h : BrAt W s b g r c B) : BrAt W.drew s b g r c B := ⟨h.pl.drew, h.bx, h.p0, h.p1⟩
theorem BrAt.ne (h : BrAt W s b g r c B) : s ≠ b ∧ s ≠ g := by
  obtain ⟨cap, h1, h2⟩ := h.pl.head
  obtain ⟨cs, h3⟩ := own_block h2
  constructor
  · intro e; rw [e] at h; rw [h.bx] at h1; cases h1
  · intro e; rw [e] at h; rw [h.bx] at h3; cases h3
theorem BrAt.lt (h : BrAt W s b g r c B) : s < W.heap.size := lt_of_block h.bx
abbrev BC (W : World) (s b : Nat) (B : Bs) : Prop := W.cell? ⟨s, 0, none⟩ = some (.pointer (some ⟨b, 0, none⟩)) ∧ W.cell? ⟨s, 1, none⟩ = some (.int .i64 B.p) ∧ W.cell? ⟨s, 2, none⟩ = some (.int .u8 B.look.b) ∧ W.cell? ⟨s, 3, none⟩ = some (.bool B.look.ge) ∧ W.cell? ⟨s, 4, none⟩ = some (.bool B.look.st) ∧ W.cell? ⟨s, 5, none⟩ = some (.int .u8 B.look.li) ∧ W.cell? ⟨s, 6, none⟩ = some (.int .u8 B.look.co) ∧ W.cell? ⟨s, 7, none⟩ = some (.bool B.laid) ∧ ∀ o, W.frozen? ⟨s, o, none⟩ = false
theorem BrAt.cells (h : BrAt W s b g r c B) : BC W s b B :=
  ⟨by simp [World.cell?, h.bx], by simp [World.cell?, h.bx], by simp [World.cell?, h.bx], by simp [World.cell?, h.bx], by simp [World.cell?, h.bx], by simp [World.cell?, h.bx], by simp [World.cell?, h.bx], by simp [World.cell?, h.bx], fun o => by simp [World.frozen?, h.bx]⟩
/-- The plane's cells are turned. -/
theorem BrAt.turn (h : BrAt W s b g r c B) {M' : List Cl} {cur' : Int} {S : Nat → Prop} (hp : PlAt W' b g r c cur' M') (t : Turn S W W') (hS : ¬ S s) (hl : M'.length = B.M.length) : BrAt W' s b g r c { B with M := M', cur := cur' } :=
  ⟨hp, (t.block _ h.lt hS).trans h.bx, h.p0, by rw [hl]; exact h.p1⟩
/-- The place is stored. -/
theorem BrAt.move (h : BrAt W s b g r c B) (x : Int) (h0 : 0 ≤ x) (h1 : x < B.M.length) : BrAt (W.setCell ⟨s, 1, none⟩ (.int .i64 x)) s b g r c { B with p := x } := by
  obtain ⟨n1, n2⟩ := h.ne
  exact ⟨h.pl.turn (turn_set W s 1 _) (fun e => n1 e.symm) (fun e => n2 e.symm), by rw [heap_set h.bx]; simp, h0, h1⟩
theorem BrAt.noted (h : BrAt W s b g r c B) (x : Bool) : BrAt (W.setCell ⟨s, 7, none⟩ (.bool x)) s b g r c { B with laid := x } := by
  obtain ⟨n1, n2⟩ := h.ne
  exact ⟨h.pl.turn (turn_set W s 7 _) (fun e => n1 e.symm) (fun e => n2 e.symm), by rw [heap_set h.bx]; simp, h.p0, h.p1⟩
/-- What an order may turn: the plane, its cells, the brush. -/
def BrS (s b g : Nat) (k : Nat) : Prop := k = s ∨ k = b ∨ k = g
theorem turn_brs {S : Nat → Prop} (t : Turn S W W') (hS : ∀ k, S k → k = s ∨ k = b ∨ k = g) : Turn (BrS s b g) W W' := t.mono hS
end
theorem mv_bd {n a b : Int} (h : 0 < n) : 0 ≤ mv n a b ∧ mv n a b < n := by
  unfold mv
  rw [if_neg (by omega)]
  exact ⟨Int.emod_nonneg _ (by omega), Int.emod_lt_of_pos _ h⟩
set_option maxHeartbeats 800000 in
theorem brHas_any {W : World} {s b g : Nat} {r c : Int} {B : Bs} (h : BrAt W s b g r c B) (i : Int) : Calls Try.prog 72 #[.pointer (some ⟨s, 0, none⟩), .int .i64 i] W fun e W' => e = .returned (.bool (hasL B.M i)) ∧ W = W' := by
  obtain ⟨q0, q1, _⟩ := h.cells
  have HL := Lib.hid (len_any h.pl)
  obtain ⟨n, hn⟩ : ∃ n, n = B.M.length := ⟨_, rfl⟩
  rw [← hn] at HL
  unfold hasL
  rw [← hn]
  clear h hn
  by_cases h0 : 0 ≤ i
  · by_cases h1 : i < n
    · go_enter Try.func72, Try.ntmps72
      go_wp2_with (go_at_call 37; (with_reducible refine HL.out.mono ?_); rintro e w1 ⟨rfl, rfl⟩)
      go_ret
      exact ⟨ret_bool (by simp; omega), rfl⟩
    · go_enter Try.func72, Try.ntmps72
      go_wp2_with (go_at_call 37; (with_reducible refine HL.out.mono ?_); rintro e w1 ⟨rfl, rfl⟩)
      go_ret
      exact ⟨ret_bool (by simp; omega), rfl⟩
  · go_enter Try.func72, Try.ntmps72
    go_wp2
    go_ret
    exact ⟨ret_bool (by simp; omega), rfl⟩
set_option maxHeartbeats 800000 in
theorem behind_any {W : World} {s b g : Nat} {r c : Int} {B : Bs} (h : BrAt W s b g r c B) (i : Int) : Calls Try.prog 145 #[.pointer (some ⟨s, 0, none⟩), .int .i64 i] W fun e W' => e = .returned (.int .i64 (mv B.M.length i 1)) ∧ Below W.heap.size W W' := by
  obtain ⟨q0, _⟩ := h.cells
  have HS := Lib.hid (size_any h.pl)
  have hn : Hid (cells r c = B.M.length) := h.pl.size
  have hm := h.pl.most
  clear h
  go_enter Try.func145, Try.ntmps145
  go_wp2_with (first
    | (go_at_call 76; (with_reducible refine HS.out.mono ?_); rintro e w1 ⟨rfl, hb1⟩)
    | (go_at_call 87; (with_reducible refine (move_any r c i 1 B.M.length w1 hn (by omega) (by omega)).mono ?_); rintro e w2 ⟨rfl, hb2⟩))
  go_ret
  exact ⟨rfl, hb1.trans (hb2.mono hb1.size)⟩
end Go.Proofs.Ytglkjcdbffkbcaa.Pl
