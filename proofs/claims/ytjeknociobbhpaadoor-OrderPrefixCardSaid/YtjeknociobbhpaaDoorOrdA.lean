/-
  Orders are read in pieces: the reader; a byte, a place, a sign, a pair; an order that is broken ends in a panic.
-/
import Derived.Test.YtjeknociobbhpaaDoorAppRow
import Derived.Test.YtjeknociobbhpaaDoorAttrC
import Derived.Recover
namespace Go.Proofs.YtjeknociobbhpaaDoor.Ord
open Go.RowKit Base
set_option linter.unusedVariables false

/-! ### Plainly -/
/-- What is wrong with an order. -/
inductive Flt | short | none | unfit
deriving DecidableEq
/-- What a piece is, and the place behind it; or what is wrong. -/
inductive Rd (α : Type) | ok (x : α) (j : Nat) | bad (f : Flt)
def plain (b : Int) : Bool := decide (b = 0 ∨ b = 12 ∨ b = 13 ∨ b = 21 ∨ b = 25 ∨ b = 28 ∨ b = 30 ∨ b = 63 ∨ 64 ≤ b)
def standsB (b : Int) (ge : Bool) : Bool := if ge then decide (64 ≤ b) else plain b
def nx (L : List Int) (i : Nat) : Rd Int := match L[i]? with | some b => .ok b (i + 1) | Option.none => .bad .short
def dec (a b : Int) : Int := if a < 64 then a * 256 + b else a % 64 * 64 + b % 64
def Rd.andThen {α β : Type} (r : Rd α) (k : α → Nat → Rd β) : Rd β := match r with | .ok x j => k x j | .bad f => .bad f
def placeM (L : List Int) (i : Nat) : Rd Int := (nx L i).andThen fun a j => (nx L j).andThen fun b k => .ok (dec a b) k
def shownM (b : Int) (ge : Bool) (j : Nat) : Rd (Int × Bool) := if standsB b ge then .ok (b, ge) j else .bad .none
def signM (L : List Int) (i : Nat) : Rd (Int × Bool) := (nx L i).andThen fun b j => if b = 8 then (nx L j).andThen fun c k => shownM c true k else shownM b false j
def pairM (L : List Int) (kind : Int) (i : Nat) : Rd (Int × Int) := (nx L i).andThen fun t j => (nx L j).andThen fun v k => if Attr.chk kind t v then .ok (t, v) k else .bad .unfit
def pairsM (L : List Int) (kind : Int) : Nat → Nat → Rd (List (Int × Int))
  | 0, i => .ok [] i
  | n + 1, i => (pairM L kind i).andThen fun p j => (pairsM L kind n j).andThen fun ps k => .ok (p :: ps) k
theorem nx_lt {L : List Int} {i : Nat} (h : i < L.length) : nx L i = .ok (L[i]?.getD 0) (i + 1) := by
  unfold nx; rw [List.getElem?_eq_getElem h]; rfl
theorem nx_end {L : List Int} {i : Nat} (h : L.length ≤ i) : nx L i = .bad .short := by
  unfold nx; rw [List.getElem?_eq_none h]

/-! ### The reader -/
def fty : Flt → TypeId | .short => 49 | .none => 50 | .unfit => 51
/-- What is thrown. -/
def thrown (f : Flt) : Ending := .panicked [{ v := .iface (fty f) (.agg #[]), recovered := false }]
structure Rdr (w : World) (b : Nat) (a : Option Addr) (cap : Nat) (L : List Int) (i : Nat) : Prop where
  box : w.heap[b]? = some (.cells #[.slice a L.length cap, .int .i64 i] 53 (0, 0))
  row : RowIn (fun k => k < b) .u8 w (.slice a L.length cap) L
  bd : ∀ x ∈ L, 0 ≤ x ∧ x < 256
  le : i ≤ L.length
  cp : L.length ≤ cap
  mx : L.length ≤ 1000000
section
variable {w w' : World} {b : Nat} {a : Option Addr} {cap : Nat} {L : List Int} {i : Nat}
theorem Rdr.below (h : Rdr w b a cap L i) (t : Below w.heap.size w w') : Rdr w' b a cap L i :=
  ⟨(t.block b (lt_of_block h.box)).trans h.box, h.row.below t, h.bd, h.le, h.cp, h.mx⟩
theorem Rdr.high (h : Rdr w b a cap L i) (t : Turn (fun k => b < k) w w') : Rdr w' b a cap L i :=
  ⟨(t.block b (lt_of_block h.box) (Nat.lt_irrefl b)).trans h.box, h.row.turn t (fun k hk e => by omega), h.bd, h.le, h.cp, h.mx⟩
theorem Rdr.drewN (h : Rdr w b a cap L i) (n : Nat) : Rdr (w.drewN n) b a cap L i := h.below (below_drewN (Below.refl _ w) n)
theorem Rdr.cells (h : Rdr w b a cap L i) : w.cell? ⟨b, 0, none⟩ = some (.slice a L.length cap) ∧ w.cell? ⟨b, 1, none⟩ = some (.int .i64 i) ∧ ∀ o, w.frozen? ⟨b, o, none⟩ = false :=
  ⟨by simp [World.cell?, h.box], by simp [World.cell?, h.box], fun o => by simp [World.frozen?, h.box]⟩
theorem Rdr.set (h : Rdr w b a cap L i) (j : Nat) (hj : j ≤ L.length) : Rdr (w.setCell ⟨b, 1, none⟩ (.int .i64 j)) b a cap L j := by
  refine ⟨?_, h.row.turn (turn_set w b 1 _) (fun k hk e => by have : k = b := e; omega), h.bd, hj, h.cp, h.mx⟩
  have := heap_set h.box 1 (.int .i64 j)
  simpa using this
theorem Rdr.byte (h : Rdr w b a cap L i) (hi : i < L.length) : ∃ g off x, a = some ⟨g, off, none⟩ ∧ L[i]?.getD 0 = x ∧ (0 : Int) ≤ x ∧ x < 256 ∧ w.cell? ⟨g, off + i, none⟩ = some (.int .u8 x) := by
  obtain ⟨a', c', e, hr⟩ := h.row
  injection e with e1 e2 e3
  obtain ⟨g, off, ha, _, _, hc⟩ := hr (by intro e; rw [e] at hi; simp at hi)
  have hm := List.getElem_mem hi
  have := h.bd _ hm
  refine ⟨g, off, L[i]?.getD 0, by rw [e1, ha], rfl, ?_, ?_, hc i hi⟩ <;> simp [hi] <;> omega
theorem turn_new {S : Nat → Prop} {x y : World} (h : Turn S x y) {q : Nat} (hq : x.heap.size ≤ q) (o : Nat) (v : Value) : Turn S x (y.setCell ⟨q, o, none⟩ v) :=
  ⟨h.os, h.tape, h.output, by have := h.size; simpa using this, fun k hk hS => ((turn_set y q o v).block k (Nat.lt_of_lt_of_le hk h.size) (fun e => by have : k = q := e; omega)).trans (h.block k hk hS)⟩
/-- A piece was read, or is broken. -/
def RdP {α : Type} (b : Nat) (a : Option Addr) (cap : Nat) (L : List Int) (w : World) (r : Rd α) (A : World → α → Value → Prop) (e : Ending) (w' : World) : Prop :=
  Turn (At b) w w' ∧ match r with | .ok x j => (∃ V, e = .returned V ∧ A w' x V) ∧ Rdr w' b a cap L j | .bad f => e = thrown f
set_option maxRecDepth 100000 in
set_option maxHeartbeats 1000000 in
theorem next_ok (h : Rdr w b a cap L i) (hi : i < L.length) :
    Calls Tryd.prog 35 #[.pointer (some ⟨b, 0, none⟩)] w fun e w' => e = .returned (.int .u8 (L[i]?.getD 0)) ∧ Rdr w' b a cap L (i + 1) ∧ Turn (At b) w w' := by
  obtain ⟨g, off, x, rfl, hx, x0, x1, hc⟩ := h.byte hi
  obtain ⟨c0, c1, fz⟩ := h.cells
  have f1 := fz 1
  have H := Lib.hid h
  have hset := Lib.hid fun nq => (h.drewN nq).set (i + 1) hi
  have hmx := h.mx
  obtain ⟨n, hn⟩ : ∃ n, n = L.length := ⟨_, rfl⟩
  rw [← hn] at c0 hi hmx
  rw [hx]
  have hne : ((i : Int) == (n : Int)) = false := by simp; omega
  have hlt : (i : Int) < (n : Int) := by omega
  have hi0 : (0 : Int) ≤ (i : Int) := Int.natCast_nonneg _
  clear hn hx fz h
  go_enter Tryd.func35, Tryd.ntmps35
  go_upto_region 1 with fail
  go_quiet (fail)
  go_wp2_with fail
  go_quiet (fail)
  go_wp2_with fail
  go_ret
  refine ⟨rfl, hset.out _, (Turn.of_below (below_drewN (Below.refl _ _) _)).trans (turn_set _ b 1 _)⟩
set_option maxRecDepth 100000 in
theorem next_end (h : Rdr w b a cap L i) (hi : i = L.length) :
    Calls Tryd.prog 35 #[.pointer (some ⟨b, 0, none⟩)] w fun e w' => e = thrown .short ∧ Turn (At b) w w' := by
  obtain ⟨c0, c1, fz⟩ := h.cells
  subst hi
  obtain ⟨n, hn⟩ : ∃ n, n = L.length := ⟨_, rfl⟩
  rw [← hn] at c0 c1
  clear hn fz h
  go_enter Tryd.func35, Tryd.ntmps35
  go_upto_region 1 with fail
  go_quiet (fail)
  go_wp2_with fail
  exact ⟨rfl, rfl, Turn.of_below (below_drewN (Below.refl _ _) _)⟩
end
end Go.Proofs.YtjeknociobbhpaaDoor.Ord
