/-
  Orders are read in pieces: the reader; a byte, a place, a sign, a pair; an order that is broken ends in a panic.
  Plain bytes; a place, a sign, a pair.
  A sign, a pair.
  A pair.
  Pairs, one behind the other.
  Plain bytes that stand together.
-/
import Derived.Test.YtmmgebiojpnhcaaDoorAppRow
import Derived.Test.YtmmgebiojpnhcaaDoorAttrC
import Derived.Recover
import Derived.Deep.WholeRow
namespace Go.Proofs.YtmmgebiojpnhcaaDoor.Ord
open Go.RowKit Base
set_option linter.unusedVariables false

/-! ### Plainly -/
/-- What is wrong with an order. -/
inductive Flt | short | none | unfit
deriving DecidableEq
/-- What a piece is, and the place behind it; or what is wrong. -/
inductive Rd (α : Type) | ok (x : α) (j : Nat) | bad (f : Flt)
def plain (b : Int) : Bool := decide (b = 0 ∨ b = 12 ∨ b = 13 ∨ b = 21 ∨ b = 25 ∨ b = 28 ∨ b = 30 ∨ b = 63 ∨ 64 ≤ b)
def standsB (b : Int) (ge : Bool) : Bool := if ge then decide (64 ≤ b) else plain b
def nx (L : List Int) (i : Nat) : Rd Int := match L[i]? with | some b => .ok b (i + 1) | Option.none => .bad .short
def dec (a b : Int) : Int := if a < 64 then a * 256 + b else a % 64 * 64 + b % 64
def Rd.andThen {α β : Type} (r : Rd α) (k : α → Nat → Rd β) : Rd β := match r with | .ok x j => k x j | .bad f => .bad f
def placeM (L : List Int) (i : Nat) : Rd Int := (nx L i).andThen fun a j => (nx L j).andThen fun b k => .ok (dec a b) k
def shownM (b : Int) (ge : Bool) (j : Nat) : Rd (Int × Bool) := if standsB b ge then .ok (b, ge) j else .bad .none
def signM (L : List Int) (i : Nat) : Rd (Int × Bool) := (nx L i).andThen fun b j => if b = 8 then (nx L j).andThen fun c k => shownM c true k else shownM b false j
def pairM (L : List Int) (kind : Int) (i : Nat) : Rd (Int × Int) := (nx L i).andThen fun t j => (nx L j).andThen fun v k => if Attr.chk kind t v then .ok (t, v) k else .bad .unfit
def pairsM (L : List Int) (kind : Int) : Nat → Nat → Rd (List (Int × Int))
  | 0, i => .ok [] i
  | n + 1, i => (pairM L kind i).andThen fun p j => (pairsM L kind n j).andThen fun ps k => .ok (p :: ps) k
theorem nx_lt {L : List Int} {i : Nat} (h : i < L.length) : nx L i = .ok (L[i]?.getD 0) (i + 1) := by
  unfold nx; rw [List.getElem?_eq_getElem h]; rfl
theorem nx_end {L : List Int} {i : Nat} (h : L.length ≤ i) : nx L i = .bad .short := by
  unfold nx; rw [List.getElem?_eq_none h]

/-! ### The reader -/
def fty : Flt → TypeId | .short => 85 | .none => 86 | .unfit => 87
/-- What is thrown. -/
def thrown (f : Flt) : Ending := .panicked [{ v := .iface (fty f) (.agg #[]), recovered := false }]
structure Rdr (w : World) (b : Nat) (a : Option Addr) (cap : Nat) (L : List Int) (i : Nat) : Prop where
  box : w.heap[b]? = some (.cells #[.slice a L.length cap, .int .i64 i] 89 (0, 0))
  row : RowIn (fun k => k < b) .u8 w (.slice a L.length cap) L
  bd : ∀ x ∈ L, 0 ≤ x ∧ x < 256
  le : i ≤ L.length
  cp : L.length ≤ cap
  mx : L.length ≤ 1000000
section
variable {w w' : World} {b : Nat} {a : Option Addr} {cap : Nat} {L : List Int} {i : Nat}
theorem Rdr.below (h : Rdr w b a cap L i) (t : Below w.heap.size w w') : Rdr w' b a cap L i :=
  ⟨(t.block b (lt_of_block h.box)).trans h.box, h.row.below t, h.bd, h.le, h.cp, h.mx⟩
theorem Rdr.high (h : Rdr w b a cap L i) (t : Turn (fun k => b < k) w w') : Rdr w' b a cap L i :=
  ⟨(t.block b (lt_of_block h.box) (Nat.lt_irrefl b)).trans h.box, h.row.turn t (fun k hk e => by omega), h.bd, h.le, h.cp, h.mx⟩
theorem Rdr.drewN (h : Rdr w b a cap L i) (n : Nat) : Rdr (w.drewN n) b a cap L i := h.below (below_drewN (Below.refl _ w) n)
theorem Rdr.cells (h : Rdr w b a cap L i) : w.cell? ⟨b, 0, none⟩ = some (.slice a L.length cap) ∧ w.cell? ⟨b, 1, none⟩ = some (.int .i64 i) ∧ ∀ o, w.frozen? ⟨b, o, none⟩ = false :=
  ⟨by simp [World.cell?, h.box], by simp [World.cell?, h.box], fun o => by simp [World.frozen?, h.box]⟩
theorem Rdr.set (h : Rdr w b a cap L i) (j : Nat) (hj : j ≤ L.length) : Rdr (w.setCell ⟨b, 1, none⟩ (.int .i64 j)) b a cap L j := by
  refine ⟨?_, h.row.turn (turn_set w b 1 _) (fun k hk e => by have : k = b := e; omega), h.bd, hj, h.cp, h.mx⟩
  have := heap_set h.box 1 (.int .i64 j)
  simpa using this
theorem Rdr.byte (h : Rdr w b a cap L i) (hi : i < L.length) : ∃ g off x, a = some ⟨g, off, none⟩ ∧ L[i]?.getD 0 = x ∧ (0 : Int) ≤ x ∧ x < 256 ∧ w.cell? ⟨g, off + i, none⟩ = some (.int .u8 x) := by
  obtain ⟨a', c', e, hr⟩ := h.row
  injection e with e1 e2 e3
  obtain ⟨g, off, ha, _, _, hc⟩ := hr (by intro e; rw [e] at hi; simp at hi)
  have hm := List.getElem_mem hi
  have := h.bd _ hm
  refine ⟨g, off, L[i]?.getD 0, by rw [e1, ha], rfl, ?_, ?_, hc i hi⟩ <;> simp [hi] <;> omega
theorem turn_new {S : Nat → Prop} {x y : World} (h : Turn S x y) {q : Nat} (hq : x.heap.size ≤ q) (o : Nat) (v : Value) : Turn S x (y.setCell ⟨q, o, none⟩ v) :=
  ⟨h.os, h.tape, h.output, by have := h.size; simpa using this, fun k hk hS => ((turn_set y q o v).block k (Nat.lt_of_lt_of_le hk h.size) (fun e => by have : k = q := e; omega)).trans (h.block k hk hS)⟩
/-- A piece was read, or is broken. -/
def RdP {α : Type} (b : Nat) (a : Option Addr) (cap : Nat) (L : List Int) (w : World) (r : Rd α) (A : World → α → Value → Prop) (e : Ending) (w' : World) : Prop :=
  Turn (At b) w w' ∧ match r with | .ok x j => (∃ V, e = .returned V ∧ A w' x V) ∧ Rdr w' b a cap L j | .bad f => e = thrown f
set_option maxRecDepth 100000 in
set_option maxHeartbeats 1000000 in
theorem next_ok (h : Rdr w b a cap L i) (hi : i < L.length) :
    Calls Tryd.prog 52 #[.pointer (some ⟨b, 0, none⟩)] w fun e w' => e = .returned (.int .u8 (L[i]?.getD 0)) ∧ Rdr w' b a cap L (i + 1) ∧ Turn (At b) w w' := by
  obtain ⟨g, off, x, rfl, hx, x0, x1, hc⟩ := h.byte hi
  obtain ⟨c0, c1, fz⟩ := h.cells
  have f1 := fz 1
  have H := Lib.hid h
  have hset := Lib.hid fun nq => (h.drewN nq).set (i + 1) hi
  have hmx := h.mx
  obtain ⟨n, hn⟩ : ∃ n, n = L.length := ⟨_, rfl⟩
  rw [← hn] at c0 hi hmx
  rw [hx]
  have hne : ((i : Int) == (n : Int)) = false := by simp; omega
  have hlt : (i : Int) < (n : Int) := by omega
  have hi0 : (0 : Int) ≤ (i : Int) := Int.natCast_nonneg _
  clear hn hx fz h
  go_enter Tryd.func52, Tryd.ntmps52
  go_upto_region 1 with fail
  go_quiet (fail)
  go_wp2_with fail
  go_quiet (fail)
  go_wp2_with fail
  go_ret
  refine ⟨rfl, hset.out _, (Turn.of_below (below_drewN (Below.refl _ _) _)).trans (turn_set _ b 1 _)⟩
set_option maxRecDepth 100000 in
theorem next_end (h : Rdr w b a cap L i) (hi : i = L.length) :
    Calls Tryd.prog 52 #[.pointer (some ⟨b, 0, none⟩)] w fun e w' => e = thrown .short ∧ Turn (At b) w w' := by
  obtain ⟨c0, c1, fz⟩ := h.cells
  subst hi
  obtain ⟨n, hn⟩ : ∃ n, n = L.length := ⟨_, rfl⟩
  rw [← hn] at c0 c1
  clear hn fz h
  go_enter Tryd.func52, Tryd.ntmps52
  go_upto_region 1 with fail
  go_quiet (fail)
  go_wp2_with fail
  exact ⟨rfl, rfl, Turn.of_below (below_drewN (Below.refl _ _) _)⟩
end
end Go.Proofs.YtmmgebiojpnhcaaDoor.Ord
namespace Go.Proofs.YtmmgebiojpnhcaaDoor.Ord
open Go.RowKit Base
set_option linter.unusedVariables false
set_option linter.unusedSimpArgs false

theorem plain_cases (b : Int) : b = 0 ∨ b = 12 ∨ b = 13 ∨ b = 21 ∨ b = 25 ∨ b = 28 ∨ b = 30 ∨ b = 63 ∨ ((b == 0) = false ∧ (b == 12) = false ∧ (b == 13) = false ∧ (b == 21) = false ∧ (b == 25) = false ∧ (b == 28) = false ∧ (b == 30) = false ∧ (b == 63) = false) := by simp; omega
set_option maxHeartbeats 1000000 in
theorem plain_any (b : Int) (w : World) : Calls Tryd.prog 50 #[.int .u8 b] w fun e w' => e = .returned (.bool (plain b)) ∧ w = w' := by
  rcases plain_cases b with rfl | rfl | rfl | rfl | rfl | rfl | rfl | rfl | ⟨b0, b1, b2, b3, b4, b5, b6, b7⟩
  case inr.inr.inr.inr.inr.inr.inr.inr =>
    have key : plain b = decide (64 ≤ b) := by simp at b0 b1 b2 b3 b4 b5 b6 b7; simp [plain, *]
    rw [key]
    go_enter Tryd.func50, Tryd.ntmps50
    go_wp2
    go_ret
    exact ⟨rfl, rfl⟩
  all_goals
    go_enter Tryd.func50, Tryd.ntmps50
    go_wp2
    go_ret
    exact ⟨rfl, rfl⟩
set_option maxHeartbeats 1000000 in
theorem stands_any (b : Int) (ge : Bool) (w : World) : Calls Tryd.prog 72 #[.int .u8 b, .bool ge] w fun e w' => e = .returned (.bool (standsB b ge)) ∧ w = w' := by
  cases ge
  · go_enter Tryd.func72, Tryd.ntmps72
    go_wp2_with fail
    refine (plain_any b _).mono ?_
    rintro e w' ⟨rfl, rfl⟩
    go_wp2_with fail
    go_ret
    exact ⟨rfl, rfl⟩
  · go_enter Tryd.func72, Tryd.ntmps72
    go_wp2_with fail
    go_ret
    exact ⟨rfl, rfl⟩
theorem shown_ok (b : Int) (ge : Bool) (w : World) (h : standsB b ge = true) : Calls Tryd.prog 54 #[.int .u8 b, .bool ge] w fun e w' => e = .returned (.int .u8 b) ∧ w = w' := by
  go_enter Tryd.func54, Tryd.ntmps54
  go_wp2_with fail
  refine (stands_any b ge _).mono ?_
  rw [h]
  rintro e w' ⟨rfl, rfl⟩
  go_wp2_with fail
  go_ret
  exact ⟨rfl, rfl⟩
theorem shown_bad (b : Int) (ge : Bool) (w : World) (h : standsB b ge = false) : Calls Tryd.prog 54 #[.int .u8 b, .bool ge] w fun e w' => e = thrown .none ∧ w = w' := by
  go_enter Tryd.func54, Tryd.ntmps54
  go_wp2_with fail
  refine (stands_any b ge _).mono ?_
  rw [h]
  rintro e w' ⟨rfl, rfl⟩
  go_wp2_with fail
  exact ⟨rfl, rfl, rfl⟩
theorem byte_fin {p : Int → Prop} (h : ∀ k : Fin 256, p (k.val : Int)) (b : Int) (h0 : 0 ≤ b) (h1 : b ≤ 255) : p b := by
  have := h ⟨b.toNat, by omega⟩
  simpa [Int.toNat_of_nonneg h0] using this
theorem value_any (b : Int) (w : World) (h0 : 0 ≤ b) (h1 : b < 256) : Calls Tryd.prog 56 #[.int .u8 b] w fun e w' => e = .returned (.int .i64 (b % 64)) ∧ w = w' := by
  go_enter Tryd.func56, Tryd.ntmps56
  go_wp2_with fail
  go_ret
  exact ⟨rfl, rfl⟩
theorem decode_any (a b : Int) (w : World) (h0 : 0 ≤ a) (h1 : a < 256) (h2 : 0 ≤ b) (h3 : b < 256) : Calls Tryd.prog 71 #[.int .u8 a, .int .u8 b] w fun e w' => e = .returned (.int .i64 (dec a b)) ∧ w = w' := by
  by_cases ha : a < 64
  · have hd : (a / 64 == 0) = true := by simp; omega
    have hm : a % 64 = a := by omega
    have hw : IntKind.i64.wrap (a * 256 + b) = a * 256 + b := IntWalk.i64_in _ (by omega)
    go_enter Tryd.func71, Tryd.ntmps71
    go_wp2_with fail
    refine (value_any a _ h0 h1).mono ?_
    rw [hm]
    rintro e w' ⟨rfl, rfl⟩
    go_wp2_with fail
    go_ret
    exact ⟨ret_int (by unfold dec; rw [if_pos ha]), rfl⟩
  · have hd : (a / 64 == 0) = false := by simp; omega
    obtain ⟨x, hx⟩ : ∃ x, x = a % 64 := ⟨_, rfl⟩
    obtain ⟨y, hy⟩ : ∃ y, y = b % 64 := ⟨_, rfl⟩
    have x0 : 0 ≤ x := by omega
    have x1 : x < 64 := by omega
    have y0 : 0 ≤ y := by omega
    have y1 : y < 64 := by omega
    go_enter Tryd.func71, Tryd.ntmps71
    go_wp2_with fail
    refine (value_any a _ h0 h1).mono ?_
    rw [← hx]
    rintro e w' ⟨rfl, rfl⟩
    go_wp2_with fail
    refine (value_any b _ h2 h3).mono ?_
    rw [← hy]
    rintro e w' ⟨rfl, rfl⟩
    go_wp2_with fail
    go_ret
    exact ⟨ret_int (by unfold dec; rw [if_neg (by omega)]), rfl⟩
section
variable {w w' : World} {b : Nat} {a : Option Addr} {cap : Nat} {L : List Int} {i : Nat}
theorem Rdr.bt (h : Rdr w b a cap L i) (j : Nat) : 0 ≤ L[j]?.getD 0 ∧ L[j]?.getD 0 < 256 := by
  rcases Nat.lt_or_ge j L.length with hj | hj
  · have := h.bd _ (List.getElem_mem hj)
    simp [hj]; omega
  · simp [List.getElem?_eq_none hj]
/-- One byte, whatever stands there. -/
theorem next_any (h : Rdr w b a cap L i) : Calls Tryd.prog 52 #[.pointer (some ⟨b, 0, none⟩)] w (RdP b a cap L w (nx L i) fun _ x V => V = .int .u8 x) := by
  rcases Nat.lt_or_ge i L.length with hi | hi
  · rw [nx_lt hi]
    refine (next_ok h hi).mono ?_
    rintro e w' ⟨rfl, h', t⟩
    exact ⟨t, ⟨_, rfl, rfl⟩, h'⟩
  · rw [nx_end hi]
    refine (next_end h (by have := h.le; omega)).mono ?_
    rintro e w' ⟨rfl, t⟩
    exact ⟨t, rfl⟩
theorem place_any (h : Rdr w b a cap L i) : Calls Tryd.prog 53 #[.pointer (some ⟨b, 0, none⟩)] w (RdP b a cap L w (placeM L i) fun _ x V => V = .int .i64 x) := by
  unfold placeM
  have H := Lib.hid h
  clear h
  rcases Nat.lt_or_ge i L.length with hi | hi
  · rw [nx_lt hi]
    simp only [Rd.andThen]
    have HI := Lib.hid hi
    clear hi
    rcases Nat.lt_or_ge (i + 1) L.length with hj | hj
    · rw [nx_lt hj]
      simp only [Rd.andThen]
      have HJ := Lib.hid hj
      clear hj
      go_enter Tryd.func53, Tryd.ntmps53
      go_wp2_with fail
      refine (next_ok H.out HI.out).mono ?_
      rintro e W1 ⟨rfl, h1, t1⟩
      have H1 := Lib.hid h1
      have T1 := Lib.hid t1
      clear h1 t1
      go_wp2_with fail
      refine (next_ok H1.out HJ.out).mono ?_
      rintro e W2 ⟨rfl, h2, t2⟩
      have H2 := Lib.hid h2
      have T2 := Lib.hid t2
      clear h2 t2
      go_wp2_with fail
      refine (decode_any _ _ _ (H.out.bt i).1 (H.out.bt i).2 (H.out.bt (i + 1)).1 (H.out.bt (i + 1)).2).mono ?_
      rintro e w' ⟨rfl, rfl⟩
      go_wp2_with fail
      go_ret
      exact ⟨T1.out.trans T2.out, ⟨_, rfl, rfl⟩, H2.out⟩
    · rw [nx_end hj]
      simp only
      have HJ := Lib.hid hj
      clear hj
      go_enter Tryd.func53, Tryd.ntmps53
      go_wp2_with fail
      refine (next_ok H.out HI.out).mono ?_
      rintro e W1 ⟨rfl, h1, t1⟩
      have H1 := Lib.hid h1
      have T1 := Lib.hid t1
      clear h1 t1
      go_wp2_with fail
      refine (next_end H1.out (by have := H1.out.le; have := HJ.out; omega)).mono ?_
      rintro e W2 ⟨rfl, t2⟩
      unfold thrown
      have T2 := Lib.hid t2
      clear t2
      go_wp2_with fail
      exact ⟨rfl, T1.out.trans T2.out, rfl⟩
  · rw [nx_end hi]
    simp only [Rd.andThen]
    have HI := Lib.hid hi
    clear hi
    go_enter Tryd.func53, Tryd.ntmps53
    go_wp2_with fail
    refine (next_end H.out (by have := H.out.le; have := HI.out; omega)).mono ?_
    rintro e W2 ⟨rfl, t2⟩
    unfold thrown
    have T2 := Lib.hid t2
    clear t2
    go_wp2_with fail
    exact ⟨rfl, T2.out, rfl⟩
end
end Go.Proofs.YtmmgebiojpnhcaaDoor.Ord
namespace Go.Proofs.YtmmgebiojpnhcaaDoor.Ord
open Go.RowKit Base
set_option linter.unusedVariables false
set_option linter.unusedSimpArgs false

section
variable {w w' : World} {b : Nat} {a : Option Addr} {cap : Nat} {L : List Int} {i : Nat}
theorem sign_any (h : Rdr w b a cap L i) : Calls Tryd.prog 55 #[.pointer (some ⟨b, 0, none⟩)] w (RdP b a cap L w (signM L i) fun _ x V => V = .tuple #[.int .u8 x.1, .bool x.2]) := by
  unfold signM
  have H := Lib.hid h
  clear h
  rcases Nat.lt_or_ge i L.length with hi | hi
  · rw [nx_lt hi]
    simp only [Rd.andThen]
    have HI := Lib.hid hi
    clear hi
    obtain ⟨x, hx⟩ : ∃ x, x = L[i]?.getD 0 := ⟨_, rfl⟩
    rw [← hx]
    have HX := Lib.hid hx.symm
    clear hx
    by_cases h8 : x = 8
    · subst h8
      rw [if_pos rfl]
      rcases Nat.lt_or_ge (i + 1) L.length with hj | hj
      · rw [nx_lt hj]
        simp only
        have HJ := Lib.hid hj
        clear hj
        obtain ⟨y, hy⟩ : ∃ y, y = L[i + 1]?.getD 0 := ⟨_, rfl⟩
        rw [← hy]
        have HY := Lib.hid hy.symm
        clear hy
        unfold shownM
        by_cases hs : standsB y true = true
        · rw [if_pos hs]
          have HS := Lib.hid hs
          clear hs
          go_enter Tryd.func55, Tryd.ntmps55
          go_wp2_with fail
          refine (next_ok H.out HI.out).mono ?_
          rw [HX.out]
          rintro e W1 ⟨rfl, h1, t1⟩
          have H1 := Lib.hid h1
          have T1 := Lib.hid t1
          clear h1 t1
          go_wp2_with fail
          refine (next_ok H1.out HJ.out).mono ?_
          rw [HY.out]
          rintro e W2 ⟨rfl, h2, t2⟩
          have H2 := Lib.hid h2
          have T2 := Lib.hid t2
          clear h2 t2
          go_wp2_with fail
          refine (shown_ok _ _ _ HS.out).mono ?_
          rintro e w' ⟨rfl, rfl⟩
          go_wp2_with fail
          go_ret2
          exact ⟨T1.out.trans T2.out, ⟨_, rfl, rfl⟩, H2.out⟩
        · rw [if_neg hs]
          have HS : Hid (standsB y true = false) := Lib.hid (by simpa using hs)
          clear hs
          go_enter Tryd.func55, Tryd.ntmps55
          go_wp2_with fail
          refine (next_ok H.out HI.out).mono ?_
          rw [HX.out]
          rintro e W1 ⟨rfl, h1, t1⟩
          have H1 := Lib.hid h1
          have T1 := Lib.hid t1
          clear h1 t1
          go_wp2_with fail
          refine (next_ok H1.out HJ.out).mono ?_
          rw [HY.out]
          rintro e W2 ⟨rfl, h2, t2⟩
          have H2 := Lib.hid h2
          have T2 := Lib.hid t2
          clear h2 t2
          go_wp2_with fail
          refine (shown_bad _ _ _ HS.out).mono ?_
          rintro e w' ⟨rfl, rfl⟩
          unfold thrown
          go_wp2_with fail
          exact ⟨rfl, T1.out.trans T2.out, rfl⟩
      · rw [nx_end hj]
        simp only
        have HJ := Lib.hid hj
        clear hj
        go_enter Tryd.func55, Tryd.ntmps55
        go_wp2_with fail
        refine (next_ok H.out HI.out).mono ?_
        rw [HX.out]
        rintro e W1 ⟨rfl, h1, t1⟩
        have H1 := Lib.hid h1
        have T1 := Lib.hid t1
        clear h1 t1
        go_wp2_with fail
        refine (next_end H1.out (by have := H1.out.le; have := HJ.out; omega)).mono ?_
        rintro e W2 ⟨rfl, t2⟩
        unfold thrown
        have T2 := Lib.hid t2
        clear t2
        go_wp2_with fail
        exact ⟨rfl, T1.out.trans T2.out, rfl⟩
    · rw [if_neg h8]
      have h8b : (x == 8) = false := by simpa using h8
      clear h8
      unfold shownM
      by_cases hs : standsB x false = true
      · rw [if_pos hs]
        have HS := Lib.hid hs
        clear hs
        go_enter Tryd.func55, Tryd.ntmps55
        go_wp2_with fail
        refine (next_ok H.out HI.out).mono ?_
        rw [HX.out]
        rintro e W1 ⟨rfl, h1, t1⟩
        have H1 := Lib.hid h1
        have T1 := Lib.hid t1
        clear h1 t1
        go_wp2_with fail
        refine (shown_ok _ _ _ HS.out).mono ?_
        rintro e w' ⟨rfl, rfl⟩
        go_wp2_with fail
        go_ret2
        exact ⟨T1.out, ⟨_, rfl, rfl⟩, H1.out⟩
      · rw [if_neg hs]
        have HS : Hid (standsB x false = false) := Lib.hid (by simpa using hs)
        clear hs
        go_enter Tryd.func55, Tryd.ntmps55
        go_wp2_with fail
        refine (next_ok H.out HI.out).mono ?_
        rw [HX.out]
        rintro e W1 ⟨rfl, h1, t1⟩
        have H1 := Lib.hid h1
        have T1 := Lib.hid t1
        clear h1 t1
        go_wp2_with fail
        refine (shown_bad _ _ _ HS.out).mono ?_
        rintro e w' ⟨rfl, rfl⟩
        unfold thrown
        go_wp2_with fail
        exact ⟨rfl, T1.out, rfl⟩
  · rw [nx_end hi]
    simp only [Rd.andThen]
    have HI := Lib.hid hi
    clear hi
    go_enter Tryd.func55, Tryd.ntmps55
    go_wp2_with fail
    refine (next_end H.out (by have := H.out.le; have := HI.out; omega)).mono ?_
    rintro e W2 ⟨rfl, t2⟩
    unfold thrown
    have T2 := Lib.hid t2
    clear t2
    go_wp2_with fail
    exact ⟨rfl, T2.out, rfl⟩
end
end Go.Proofs.YtmmgebiojpnhcaaDoor.Ord
namespace Go.Proofs.YtmmgebiojpnhcaaDoor.Ord
open Go.RowKit Base
set_option linter.unusedVariables false
set_option linter.unusedSimpArgs false

theorem info_pair : (Tryd.prog.info? 117).map (fun i => (i.zero, i.size)) = some (some (.agg #[.int .u8 0, .int .u8 0]), 2) := by kernel_rfl
theorem size_pair : (Tryd.prog.info? 117).map (·.size) = some 2 := by kernel_rfl
theorem load_pair {g : Nat} {W : World} {x y : Value} (hr : W.heap[g]? = some (.cells #[x, y] 117 (0, 0))) : (loadVar 117 ⟨g, 0, none⟩).run Tryd.prog W = .ok (.agg #[x, y]) W :=
  run_loadVar_row _ g 117 117 _ (0, 0) _ hr Tryd.underlying117 rfl size_pair
theorem results_row {fn : Func} {p : Tmp} {ty : TypeId} (h : fn.results = #[.cell p ty]) (tmps : Array Value) (w : World) (g : Nat) (cs : Array Value)
    (hp : tmps.getD p undef = .pointer (some ⟨g, 0, none⟩)) (hl : (loadVar ty ⟨g, 0, none⟩).run Tryd.prog w = .ok (.agg cs) w) : (results fn tmps).run Tryd.prog w = .ok (.agg cs) w := by
  have hp' : tmps[p]?.getD undef = .pointer (some ⟨g, 0, none⟩) := by simpa using hp
  simp [results, h, hp', asAddr, hl]
section
variable {w w' : World} {b : Nat} {a : Option Addr} {cap : Nat} {L : List Int} {i : Nat}
set_option maxRecDepth 100000 in
set_option maxHeartbeats 1000000 in
theorem pair_any (h : Rdr w b a cap L i) (kind : Int) : Calls Tryd.prog 73 #[.pointer (some ⟨b, 0, none⟩), .int .u8 kind] w (RdP b a cap L w (pairM L kind i) fun _ x V => V = .agg #[.int .u8 x.1, .int .u8 x.2]) := by
  have hz := (zero_of_info info_pair).1
  have hlt := lt_of_block h.box
  unfold pairM
  have H0 := Lib.hid (h.below (below_alloc w (.cells #[.int .u8 0, .int .u8 0] 117)))
  have B0 := Lib.hid (below_alloc w (.cells #[.int .u8 0, .int .u8 0] 117))
  have N0 := Lib.hid (heap_alloc_new w (.cells #[.int .u8 0, .int .u8 0] 117))
  obtain ⟨W0, hW0⟩ : ∃ W0, W0 = w.alloc (.cells #[.int .u8 0, .int .u8 0] 117) := ⟨_, rfl⟩
  rw [← hW0] at H0 B0 N0
  obtain ⟨s, hs⟩ : ∃ s, s = w.heap.size := ⟨_, rfl⟩
  rw [← hs] at N0
  have HW0 := Lib.hid hW0.symm
  have HS := Lib.hid hs.symm
  have hsb : s ≠ b := by omega
  have HSB := Lib.hid hsb
  have HBS : Hid (b < s ∧ w.heap.size ≤ s) := Lib.hid ⟨by omega, by omega⟩
  clear hW0 hs hsb h hlt
  rcases Nat.lt_or_ge i L.length with hi | hi
  · rw [nx_lt hi]
    simp only [Rd.andThen]
    have HI := Lib.hid hi
    clear hi
    obtain ⟨x, hx⟩ : ∃ x, x = L[i]?.getD 0 := ⟨_, rfl⟩
    rw [← hx]
    have HX := Lib.hid hx.symm
    clear hx
    rcases Nat.lt_or_ge (i + 1) L.length with hj | hj
    · rw [nx_lt hj]
      simp only
      have HJ := Lib.hid hj
      clear hj
      obtain ⟨y, hy⟩ : ∃ y, y = L[i + 1]?.getD 0 := ⟨_, rfl⟩
      rw [← hy]
      have HY := Lib.hid hy.symm
      clear hy
      obtain ⟨R, hR⟩ : ∃ R, R = (if Attr.chk kind x y = true then Rd.ok (x, y) (i + 1 + 1) else Rd.bad .unfit) := ⟨_, rfl⟩
      rw [← hR]
      have HR := Lib.hid hR
      clear hR
      go_enter Tryd.func73, Tryd.ntmps73
      go_wp2_with fail
      rw [HW0.out, HS.out]
      refine (next_ok H0.out HI.out).mono ?_
      rw [HX.out]
      rintro e W1 ⟨rfl, h1, t1⟩
      have b2 := below_alloc W1 (.cells #[.int .u8 x, .int .u8 0] 117)
      have k2 := heap_alloc_new W1 (.cells #[.int .u8 x, .int .u8 0] 117)
      obtain ⟨W2, hW2⟩ : ∃ W2, W2 = W1.alloc (.cells #[.int .u8 x, .int .u8 0] 117) := ⟨_, rfl⟩
      rw [← hW2] at b2 k2
      obtain ⟨q, hq⟩ : ∃ q, q = W1.heap.size := ⟨_, rfl⟩
      rw [← hq] at k2
      have hqb : q ≠ b := by have := lt_of_block h1.box; omega
      have n2 := (b2.block s (Nat.lt_of_lt_of_le (lt_of_block N0.out) t1.size)).trans ((t1.block s (lt_of_block N0.out) HSB.out).trans N0.out)
      have hsq : s ≠ q := by have := Nat.lt_of_lt_of_le (lt_of_block N0.out) t1.size; omega
      have H2 := Lib.hid (h1.below b2)
      have T2 := Lib.hid (t1.trans (Turn.of_below b2))
      have K2 := Lib.hid k2
      have N2 := Lib.hid n2
      have HW2 := Lib.hid hW2.symm
      have HQ := Lib.hid hq.symm
      have HQB := Lib.hid hqb
      have HBQ : Hid (b < q) := Lib.hid (by have := lt_of_block h1.box; omega)
      have HQW : Hid (w.heap.size ≤ q) := Lib.hid (by have := t1.size; have := B0.out.size; omega)
      have HSQ := Lib.hid hsq
      clear h1 t1 b2 k2 hW2 hq hqb n2 hsq
      go_upto_region 2 with fail
      rw [HW2.out, HQ.out]
      go_wp2_with fail
      refine (next_ok H2.out HJ.out).mono ?_
      rw [HY.out]
      rintro e W3 ⟨rfl, h3, t3⟩
      have k3 := (t3.block q (lt_of_block K2.out) HQB.out).trans K2.out
      have n3 := (t3.block s (lt_of_block N2.out) HSB.out).trans N2.out
      have c3 : W3.cell? ⟨q, 1, none⟩ = some (.int .u8 0) := by simp [World.cell?, k3]
      have f3 : W3.frozen? ⟨q, 1, none⟩ = false := by simp [World.frozen?, k3]
      have k4 : (W3.setCell ⟨q, 1, none⟩ (.int .u8 y)).heap[q]? = some (.cells #[.int .u8 x, .int .u8 y] 117 (0, 0)) := by
        have := heap_set k3 1 (.int .u8 y)
        simpa using this
      have n4 := ((turn_set W3 q 1 (.int .u8 y)).block s (lt_of_block n3) HSQ.out).trans n3
      have hbq : b < q := HBQ.out
      have h4 := h3.high ((turn_set W3 q 1 (.int .u8 y)).mono fun k hk => by rw [show k = q from hk]; exact hbq)
      have t4 : Turn (At b) w (W3.setCell ⟨q, 1, none⟩ (.int .u8 y)) := turn_new (((Turn.of_below B0.out).trans T2.out).trans t3) HQW.out 1 _
      have l4 := load_pair k4
      obtain ⟨W4, hW4⟩ : ∃ W4, W4 = W3.setCell ⟨q, 1, none⟩ (.int .u8 y) := ⟨_, rfl⟩
      rw [← hW4] at k4 n4 h4 t4 l4
      have H4 := Lib.hid h4
      have T4 := Lib.hid t4
      have K4 := Lib.hid k4
      have N4 := Lib.hid n4
      have HW4 := Lib.hid hW4.symm
      have c40 : W4.cell? ⟨q, 0, none⟩ = some (.int .u8 x) := by simp [World.cell?, k4]
      have c41 : W4.cell? ⟨q, 1, none⟩ = some (.int .u8 y) := by simp [World.cell?, k4]
      clear k3 n3 k4 n4 h4 t4 hbq hW4 h3 t3
      go_upto_region 3 with fail
      rw [HW4.out]
      clear c3 f3
      go_wp2_with fail
      refine (Attr.check_any kind x y W4).mono ?_
      unfold Attr.chkE
      rintro e W5 ⟨rfl, b5⟩
      have k5 := (b5.block q (lt_of_block K4.out)).trans K4.out
      have n5 := (b5.block s (lt_of_block N4.out)).trans N4.out
      have q0 : W5.cell? ⟨q, 0, none⟩ = some (.int .u8 x) := by simp [World.cell?, k5]
      have q1 : W5.cell? ⟨q, 1, none⟩ = some (.int .u8 y) := by simp [World.cell?, k5]
      have f50 : W5.frozen? ⟨s, 0, none⟩ = false := by simp [World.frozen?, n5]
      have f51 : W5.frozen? ⟨s, 1, none⟩ = false := by simp [World.frozen?, n5]
      have c50 : W5.cell? ⟨s, 0, none⟩ = some (.int .u8 0) := by simp [World.cell?, n5]
      have c51 : W5.cell? ⟨s, 1, none⟩ = some (.int .u8 0) := by simp [World.cell?, n5]
      have H5 := Lib.hid (H4.out.below b5)
      have T5 := Lib.hid (T4.out.trans (Turn.of_below b5))
      have N5 := Lib.hid n5
      clear l4 k5 n5 b5 c40 c41
      by_cases hc : Attr.chk kind x y = true
      · rw [if_pos hc]
        have hR := HR.out
        rw [if_pos hc] at hR
        subst hR
        clear hc HR
        go_wp2_with fail
        have n6 := heap_set (heap_set N5.out 0 (.int .u8 x)) 1 (.int .u8 y)
        have h6 := (H5.out.high ((turn_set _ s 0 (.int .u8 x)).mono fun k hk => by rw [show k = s from hk]; exact HBS.out.1)).high ((turn_set _ s 1 (.int .u8 y)).mono fun k hk => by rw [show k = s from hk]; exact HBS.out.1)
        have t6 := turn_new (turn_new T5.out HBS.out.2 0 (.int .u8 x)) HBS.out.2 1 (.int .u8 y)
        refine bodyPost_ret (results_row rfl _ _ s _ rfl (load_pair n6)) rfl ?_
        exact ⟨t6, ⟨_, rfl, rfl⟩, h6⟩
      · rw [if_neg hc]
        have hR := HR.out
        rw [if_neg hc] at hR
        subst hR
        clear hc HR
        go_wp2_with fail
        exact ⟨rfl, T5.out, rfl⟩
    · rw [nx_end hj]
      simp only
      have HJ := Lib.hid hj
      clear hj
      go_enter Tryd.func73, Tryd.ntmps73
      go_wp2_with fail
      rw [HW0.out, HS.out]
      refine (next_ok H0.out HI.out).mono ?_
      rw [HX.out]
      rintro e W1 ⟨rfl, h1, t1⟩
      have b2 := below_alloc W1 (.cells #[.int .u8 x, .int .u8 0] 117)
      obtain ⟨W2, hW2⟩ : ∃ W2, W2 = W1.alloc (.cells #[.int .u8 x, .int .u8 0] 117) := ⟨_, rfl⟩
      rw [← hW2] at b2
      have H2 := Lib.hid (h1.below b2)
      have T2 := Lib.hid (t1.trans (Turn.of_below b2))
      have HW2 := Lib.hid hW2.symm
      clear h1 t1 b2 hW2
      go_upto_region 2 with fail
      rw [HW2.out]
      go_wp2_with fail
      refine (next_end H2.out (by have := H2.out.le; have := HJ.out; omega)).mono ?_
      rintro e W3 ⟨rfl, t3⟩
      unfold thrown
      have T3 := Lib.hid ((Turn.of_below (S := At b) B0.out).trans (T2.out.trans t3))
      clear t3
      go_wp2_with fail
      exact ⟨rfl, T3.out, rfl⟩
  · rw [nx_end hi]
    simp only [Rd.andThen]
    have HI := Lib.hid hi
    clear hi
    go_enter Tryd.func73, Tryd.ntmps73
    go_wp2_with fail
    rw [HW0.out, HS.out]
    refine (next_end H0.out (by have := H0.out.le; have := HI.out; omega)).mono ?_
    rintro e W2 ⟨rfl, t2⟩
    unfold thrown
    have T2 := Lib.hid ((Turn.of_below (S := At b) B0.out).trans t2)
    clear t2
    go_wp2_with fail
    exact ⟨rfl, T2.out, rfl⟩
end
end Go.Proofs.YtmmgebiojpnhcaaDoor.Ord
namespace Go.Proofs.YtmmgebiojpnhcaaDoor.Ord
open Go.RowKit Base
set_option linter.unusedVariables false
set_option linter.unusedSimpArgs false

def flatP (ps : List (Int × Int)) : List Value := ps.flatMap fun p => [.int .u8 p.1, .int .u8 p.2]
theorem flatP_append (A B : List (Int × Int)) : flatP (A ++ B) = flatP A ++ flatP B := by simp [flatP]
theorem flatP_length (A : List (Int × Int)) : (flatP A).length = A.length * 2 := by
  induction A with
  | nil => rfl
  | cons p A ih =>
    have : flatP (p :: A) = [.int .u8 p.1, .int .u8 p.2] ++ flatP A := by simp [flatP]
    rw [this, List.length_append, ih]; simp; omega
/-- The call's own row of pairs. -/
def PairRow (s : Nat) (w : World) (v : Value) (ps : List (Int × Int)) : Prop := w.ownsRow s 117 2 v ps.length (flatP ps)
section
variable {s : Nat} {w w' : World} {v : Value} {ps : List (Int × Int)}
theorem PairRow.keep (h : PairRow s w v ps) (u : ∀ g, s ≤ g → g < w.heap.size → w'.heap[g]? = w.heap[g]?) : PairRow s w' v ps := by
  refine ⟨h.1, ?_⟩
  rcases h.2 with h0 | ⟨g, cap, cur, rfl, hg, hgb, rest⟩
  · exact .inl h0
  · exact .inr ⟨g, cap, cur, rfl, hg, (u g hg (lt_of_block hgb)).trans hgb, rest⟩
theorem PairRow.turn {T : Nat → Prop} (h : PairRow s w v ps) (t : Turn T w w') (hT : ∀ k, T k → k < s) : PairRow s w' v ps := h.keep fun g hs hl => t.block g hl fun e => by have := hT g e; omega
theorem PairRow.slice (h : PairRow s w v ps) : ∃ a cap, v = .slice a ps.length cap := by
  rcases h.2 with ⟨rfl, hn⟩ | ⟨g, cap, cur, rfl, _⟩
  · exact ⟨none, 0, by rw [hn]⟩
  · exact ⟨_, _, rfl⟩
theorem pair_cl (w : World) (x y : Int) : ∀ (j : Nat) (u : Value), ([.int .u8 x, .int .u8 y] : List Value)[j]? = some u → (w.alloc (.cells #[.int .u8 x, .int .u8 y] 117)).cell? ((⟨w.heap.size, 0, none⟩ : Addr).add j) = some u := by
  intro j u hu
  match j, hu with
  | 0, hu => simp at hu; subst hu; simp [go_sem, Addr.add]
  | 1, hu => simp at hu; subst hu; simp [go_sem, Addr.add]
end
theorem row_first {base n k : Nat} {e : TypeId} {w : World} {v : Value} {xs : List Value} (h : w.ownsRow base e k v n xs) : ∀ r, v.ownBlock = some r → base ≤ r := fun r e => by
  rcases h.2 with ⟨rfl, _⟩ | ⟨g, cap, cur, rfl, hg', _, _⟩
  · cases e
  · obtain rfl : r = g := by simpa [Value.ownBlock, eq_comm] using e
    exact hg'
def Rd.pre {α : Type} (A : List α) (r : Rd (List α)) : Rd (List α) := match r with | .ok x j => .ok (A ++ x) j | .bad f => .bad f
theorem pairsM_step (L : List Int) (kind : Int) (n j : Nat) (ps : List (Int × Int)) : (pairsM L kind (n + 1) j).pre ps = (pairM L kind j).andThen fun p k => (pairsM L kind n k).pre (ps ++ [p]) := by
  show ((pairM L kind j).andThen fun p j => (pairsM L kind n j).andThen fun qs k => .ok (p :: qs) k).pre ps = _
  cases pairM L kind j with
  | bad f => rfl
  | ok p k =>
    simp only [Rd.andThen]
    cases pairsM L kind n k with
    | bad f => rfl
    | ok qs l => simp [Rd.pre]
theorem info_pr : (Tryd.prog.info? 117).map (fun i => (i.zero, i.size, i.bytes)) = some (some (.agg #[.int .u8 0, .int .u8 0]), 2, 2) := by kernel_rfl
structure PR (w : World) (b : Nat) (a : Option Addr) (cap : Nat) (L : List Int) (kind : Int) (R : Rd (List (Int × Int))) (n k : Nat) (v : Value) (wr : World) : Prop where
  ex : ∃ ps j, ps.length = k ∧ R = (pairsM L kind (n - k) j).pre ps ∧ PairRow w.heap.size wr v ps ∧ Rdr wr b a cap L j
  t : Turn (At b) w wr
def PairsRel (w : World) (b : Nat) (a : Option Addr) (cap : Nat) (L : List Int) (kind : Int) (R : Rd (List (Int × Int))) (n : Nat) (v i : Value) (wr : World) : Prop := ∃ k : Nat, k ≤ n ∧ i = .int .i64 k ∧ PR w b a cap L kind R n k v wr
section
variable {w w' : World} {b : Nat} {a : Option Addr} {cap : Nat} {L : List Int} {i : Nat}
set_option maxRecDepth 100000 in
set_option maxHeartbeats 2000000 in
theorem pairs_any (h : Rdr w b a cap L i) (kind : Int) (n : Nat) (hn : n ≤ 255) :
    Calls Tryd.prog 57 #[.pointer (some ⟨b, 0, none⟩), .int .u8 kind, .int .i64 n] w (RdP b a cap L w (pairsM L kind n i) fun w' ps V => PairRow w.heap.size w' V ps) := by
  obtain ⟨i0, hi, hz0, hz1, hz2⟩ := info_parts info_pr
  obtain ⟨R, hR⟩ : ∃ R, R = pairsM L kind n i := ⟨_, rfl⟩
  rw [← hR]
  have hR0 : R = (pairsM L kind (n - 0) i).pre [] := by
    rw [hR, Nat.sub_zero]
    cases pairsM L kind n i <;> rfl
  have HP0 : Hid (PR w b a cap L kind R n 0 (.slice none 0 0) w) := Lib.hid ⟨⟨[], i, rfl, hR0, ⟨rfl, .inl ⟨rfl, rfl⟩⟩, h⟩, Turn.refl _ _⟩
  have HB := Lib.hid (lt_of_block h.box)
  clear h hR hR0
  go_enter Tryd.func57, Tryd.ntmps57
  go_upto_region 3 with fail
  go_loopw [7, 9] (fun v i wr => PairsRel w b a cap L kind R n v i wr) (fun _ i _ => n - (intOf i).toNat)
  case atStart => exact ⟨0, by omega, rfl, HP0.out⟩
  case round =>
    obtain ⟨k, hk, rfl, hP⟩ := hrel
    obtain ⟨⟨ps, j, hps, hRk, hrow, hrd⟩, ht⟩ := hP
    obtain ⟨va, vc, rfl⟩ := hrow.slice
    by_cases hkn : k < n
    · have hkni : (k : Int) < (n : Int) := by omega
      rw [show n - k = n - (k + 1) + 1 by omega, pairsM_step] at hRk
      have HRK := Lib.hid hRk
      have HRD := Lib.hid hrd
      have HROW := Lib.hid hrow
      have HT := Lib.hid ht
      have HPS := Lib.hid hps
      obtain ⟨m, hm⟩ : ∃ m, m = ps.length := ⟨_, rfl⟩
      rw [← hm]
      have HM := Lib.hid hm
      have hm255 : m ≤ 255 := by omega
      clear hRk hrd hrow ht hps hm HP0
      obtain ⟨r, hr⟩ : ∃ r, r = pairM L kind j := ⟨_, rfl⟩
      have hc := pair_any HRD.out kind
      rw [← hr] at hc HRK
      cases r with
      | bad f =>
        have hRf : R = .bad f := HRK.out
        subst hRf
        have HC := Lib.hid hc
        clear hr hc HRK
        go_wp2_with fail
        refine HC.out.mono ?_
        rintro e W1 ⟨t1, he⟩
        have he : e = thrown f := he
        subst he
        have T1 := Lib.hid (HT.out.trans t1)
        clear t1
        unfold thrown
        go_wp2_with fail
        exact ⟨rfl, T1.out, rfl⟩
      | ok p j2 =>
        obtain ⟨x, y⟩ := p
        have hRp : R = (pairsM L kind (n - (k + 1)) j2).pre (ps ++ [(x, y)]) := HRK.out
        have HRP := Lib.hid hRp
        have HC := Lib.hid hc
        clear hr hc hRp HRK
        go_upto_region 4 with fail
        go_wp2_with (first
          | (go_at_call 73; refine HC.out.mono ?_; rintro e W1 ⟨t1, ⟨V, rfl, rfl⟩, h1⟩; have T1 := Lib.hid (HT.out.trans t1); have H1 := Lib.hid h1; have hraw : W1.ownsRow w.heap.size 117 2 (.slice va m vc) m (flatP ps) := by {
              have := HROW.out.turn t1 fun k hk => by { have := HB.out; rw [show k = b from hk]; exact this }
              unfold PairRow at this; rw [← HM.out] at this; exact this }; have HRAW := Lib.hid hraw; have HZ : Hid (w.heap.size ≤ W1.heap.size) := Lib.hid T1.out.size; clear t1 h1 hraw; simp only [])
          | (at_builtin; refine wpList_append_own _ rfl _ _ 90 rfl w.heap.size 117 i0 (.agg #[.int .u8 0, .int .u8 0]) 2 2 Tryd.underlying90 hi hz0 hz1 hz2 rfl (by decide) _ _ _ rfl (HRAW.out.alloc _) ⟨W1.heap.size, 0, none⟩ 1 1 [.int .u8 x, .int .u8 y] rfl rfl (pair_cl W1 x y) (by simp [Value.oneCell']) (by unfold maxLen; omega) (by omega) (by rw [World.size_alloc]; have := HZ.out; omega) ?_; intro v' W5 hown' hgrow _))
        have hfirst : ∀ g, (Value.slice va m vc).ownBlock = some g → w.heap.size ≤ g := row_first HRAW.out
        have hal := below_alloc W1 (.cells #[.int .u8 x, .int .u8 y] 117)
        have t5 : Turn (At b) w W5 := (T1.out.trans (Turn.of_below hal)).grown hgrow fun g e => .inl (hfirst g e)
        have u5 : Turn (fun g => b < g) W1 W5 := (Turn.of_below hal).grown hgrow fun g e => .inr (by have := hfirst g e; have := HB.out; omega)
        have h5 := H1.out.high u5
        have hrow5 : PairRow w.heap.size W5 v' (ps ++ [(x, y)]) := by
          unfold PairRow
          rw [flatP_append, List.length_append, ← HM.out]
          exact hown'
        go_roundw
        case rel => exact ⟨k + 1, by omega, by go_num, ⟨⟨_, j2, by rw [List.length_append, HPS.out]; rfl, HRP.out, hrow5, h5⟩, t5⟩⟩
        case measure => simp [intOf]; omega
    · obtain rfl : n = k := by omega
      rw [Nat.sub_self] at hRk
      have hRe : R = .ok ps j := by rw [hRk]; simp [pairsM, Rd.pre]
      subst hRe
      clear hRk HP0 hkn
      go_wp2_with fail
      go_ret
      exact ⟨ht, ⟨_, rfl, hrow⟩, hrd⟩
end
end Go.Proofs.YtmmgebiojpnhcaaDoor.Ord
namespace Go.Proofs.YtmmgebiojpnhcaaDoor.Ord
open Go.RowKit Base
set_option linter.unusedVariables false
set_option linter.unusedSimpArgs false

def dataL (L : List Int) (i : Nat) : List Int := (L.drop i).takeWhile plain
theorem dataL_stop (L : List Int) : ∀ (k i : Nat), i + k ≤ L.length → (∀ q, i ≤ q → q < i + k → plain (L[q]?.getD 0) = true) → (i + k = L.length ∨ plain (L[i + k]?.getD 0) = false) → dataL L i = (L.drop i).take k
  | 0, i, hle, _, hs => by
    unfold dataL
    rw [List.take_zero]
    rcases Nat.lt_or_ge i L.length with hi | hi
    · rw [List.drop_eq_getElem_cons hi, List.takeWhile_cons_of_neg]
      rcases hs with h | h
      · omega
      · simpa [hi] using h
    · rw [List.drop_eq_nil_of_le hi]; rfl
  | k + 1, i, hle, ha, hs => by
    have hi : i < L.length := by omega
    have hp := ha i (Nat.le_refl _) (by omega)
    have ih := dataL_stop L k (i + 1) (by omega) (fun q h1 h2 => ha q (by omega) (by omega)) (by rw [show i + 1 + k = i + (k + 1) by omega]; exact hs)
    unfold dataL at ih ⊢
    rw [List.drop_eq_getElem_cons hi, List.takeWhile_cons_of_pos (by simpa [hi] using hp), ih, List.take_succ_cons]
theorem plain_quiet (b : Int) (w : World) (n : Nat) : Calls Tryd.prog 50 #[.int .u8 b] (w.drewN n) fun e w' => e = .returned (.bool (plain b)) ∧ ∃ m, w' = w.drewN m :=
  (plain_any b _).mono fun e w' ⟨h1, h2⟩ => ⟨h1, n, h2.symm⟩
structure DR (w : World) (b : Nat) (a : Option Addr) (cap : Nat) (L : List Int) (i j : Nat) (wr : World) : Prop where
  rd : Rdr wr b a cap L j
  le : i ≤ j
  all : ∀ q, i ≤ q → q < j → plain (L[q]?.getD 0) = true
  t : Turn (At b) w wr
def DRel (w : World) (b : Nat) (a : Option Addr) (cap : Nat) (L : List Int) (i : Nat) (wr : World) : Prop := ∃ j, DR w b a cap L i j wr
def dm (b n : Nat) (wr : World) : Nat := n - (match wr.cell? ⟨b, 1, none⟩ with | some (.int _ k) => k.toNat | _ => 0)
theorem Rdr.dm {w : World} {b : Nat} {a : Option Addr} {cap : Nat} {L : List Int} {i : Nat} (h : Rdr w b a cap L i) (n : Nat) : dm b n w = n - i := by
  unfold Ord.dm; rw [h.cells.2.1]; simp
theorem sub_row {S : Nat → Prop} {w : World} {g off c c' i j : Nat} {L : List Int} (h : RowIn S .u8 w (.slice (some ⟨g, off, none⟩) L.length c) L) (hj : i ≤ j) (hl : j ≤ L.length) : RowOf .u8 w (.slice (some ⟨g, off + i, none⟩) (j - i) c') ((L.drop i).take (j - i)) := by
  have hlen : ((L.drop i).take (j - i)).length = j - i := by rw [List.length_take, List.length_drop]; omega
  refine ⟨_, c', by rw [hlen], fun hne => ?_⟩
  obtain ⟨a', c2, e, hr⟩ := h
  injection e with e1 e2 e3
  obtain ⟨g', off', rfl, _, _, hc⟩ := hr (by intro e; rw [e] at hl hne; simp at hne)
  injection e1 with e1
  injection e1 with e1 e4 _
  subst e1 e4
  refine ⟨g, off + i, rfl, fun q hq => ?_⟩
  rw [hlen] at hq
  have := hc (i + q) (by omega)
  rw [show off + i + q = off + (i + q) by omega, this]
  congr 3
  rw [List.getElem?_take_of_lt hq, List.getElem?_drop]
section
variable {w w' : World} {b : Nat} {a : Option Addr} {cap : Nat} {L : List Int} {i : Nat}
set_option maxRecDepth 100000 in
set_option maxHeartbeats 2000000 in
theorem data_any (h : Rdr w b a cap L i) (hi : i < L.length) (hp : plain (L[i]?.getD 0) = true) :
    Calls Tryd.prog 51 #[.pointer (some ⟨b, 0, none⟩)] w fun e w' => ∃ V, e = .returned V ∧ OwnBytes w.heap.size w' V (dataL L i) ∧ Rdr w' b a cap L (i + (dataL L i).length) ∧ Turn (At b) w w' := by
  obtain ⟨n, hn⟩ : ∃ n, n = L.length := ⟨_, rfl⟩
  obtain ⟨g, off, _, rfl, _⟩ := h.byte hi
  have HN := Lib.hid hn
  have D0 := Lib.hid (show DR w b (some ⟨g, off, none⟩) cap L i i w from ⟨h, Nat.le_refl _, fun q h1 h2 => absurd h1 (by omega), Turn.refl _ _⟩)
  have HI : Hid (i < n) := Lib.hid (by omega)
  have HP := Lib.hid hp
  have hmx := h.mx
  have hcp := h.cp
  obtain ⟨c0, c1, fz⟩ := h.cells
  have HB := Lib.hid (lt_of_block h.box)
  rw [← hn] at hmx hcp c0
  clear hn hi hp h fz
  go_enter Tryd.func51, Tryd.ntmps51
  go_upto_region 2 with fail
  clear c0 c1
  go_loopw [] (fun wr => DRel w b (some ⟨g, off, none⟩) cap L i wr) (fun wr => dm b n wr)
  case atStart => exact ⟨i, D0.out⟩
  case round =>
    obtain ⟨j, hD⟩ := hrel
    obtain ⟨c0, c1, fz⟩ := hD.rd.cells
    have hjle := hD.rd.le
    rw [← HN.out] at c0 hjle
    have f1 := fz 1
    have HD := Lib.hid hD
    have HDM := Lib.hid (hD.rd.dm n)
    clear hD fz D0
    by_cases hjn : j < n
    · have hjni : (j : Int) < (n : Int) := by omega
      have hj0 : (0 : Int) ≤ (j : Int) := Int.natCast_nonneg _
      obtain ⟨g', off', x, e, hx, x0, x1, hc⟩ := HD.out.rd.byte (by rw [← HN.out]; exact hjn)
      injection e with e
      injection e with e1 e2 _
      subst e1 e2
      have HX := Lib.hid hx
      by_cases hpl : plain x = true
      · have HPL := Lib.hid hpl
        clear hx hpl
        go_upto_region 2 with fail
        go_quiet ((go_at_call 50; exact plain_quiet _ _ _))
        rw [HPL.out]
        have hset := Lib.hid ((HD.out.rd.drewN nq).set (j + 1) (by rw [← HN.out]; exact hjn))
        go_wp2_with fail
        go_roundw
        case rel =>
          refine ⟨j + 1, hset.out, by have := HD.out.le; omega, fun q h1 h2 => ?_, (HD.out.t.trans (Turn.of_below (below_drewN (Below.refl _ _) _))).trans (turn_set _ b 1 _)⟩
          by_cases hqj : q < j
          · exact HD.out.all q h1 hqj
          · obtain rfl : q = j := by omega
            rw [HX.out]; exact HPL.out
        case measure =>
          have hq : dm b n ((wr.drewN nq).setCell ⟨b, 1, none⟩ (.int .i64 ((j : Int) + 1))) = n - (j + 1) := hset.out.dm n
          rw [HDM.out, hq]; omega
      · have HPL : Hid (plain x = false) := Lib.hid (by simpa using hpl)
        clear hx hpl
        go_upto_region 2 with fail
        go_quiet ((go_at_call 50; exact plain_quiet _ _ _))
        rw [HPL.out]
        go_upto_region 4 with fail
        have hk := dataL_stop L (j - i) i (by have := HD.out.le; have := HN.out; omega) (fun q h1 h2 => HD.out.all q h1 (by have := HD.out.le; omega)) (by rw [show i + (j - i) = j by have := HD.out.le; omega]; exact .inr (by rw [HX.out]; exact HPL.out))
        have hij : i < j := by
          have := HD.out.le
          rcases Nat.lt_or_ge i j with h | h
          · exact h
          · obtain rfl : i = j := by omega
            exact absurd HP.out (by rw [HX.out, HPL.out]; simp)
        have hlen : (dataL L i).length = j - i := by rw [hk, List.length_take, List.length_drop]; have := HN.out; omega
        obtain ⟨W4, hW4⟩ : ∃ W4, W4 = wr.drewN nq := ⟨_, rfl⟩
        have rd4 : Rdr W4 b (some ⟨g, off, none⟩) cap L j := by rw [hW4]; exact HD.out.rd.drewN nq
        have t4 : Turn (At b) w W4 := by rw [hW4]; exact HD.out.t.trans (Turn.of_below (below_drewN (Below.refl _ _) _))
        rw [← hW4]
        obtain ⟨c40, c41, _⟩ := rd4.cells
        rw [← HN.out] at c40
        have hrow : RowOf .u8 W4.drew (.slice (some ⟨g, off + i, none⟩) (j - i) (cap - i)) (dataL L i) := by
          rw [hk]
          have hsub : RowOf .u8 W4 (.slice (some ⟨g, off + i, none⟩) (j - i) (cap - i)) ((L.drop i).take (j - i)) := sub_row (c := cap) rd4.row (Nat.le_of_lt hij) rd4.le
          exact hsub
        have HR := Lib.hid hrow
        have R4 := Lib.hid rd4
        have T4 := Lib.hid t4
        have HLEN := Lib.hid hlen
        have s1 : (i : Int) ≤ (j : Int) := by omega
        have s2 : (j : Int) ≤ (cap : Int) := by omega
        have s3 : (0 : Int) ≤ (i : Int) := Int.natCast_nonneg _
        have s4 : ¬ cap = i := by omega
        clear hW4 rd4 t4 hrow hk hlen c0 c1 f1 HDM
        go_region_law (refine step_append_row (by rfl) _ _ (by rfl) (OwnBytes.nil W4.heap.size W4.drew) HR.out (fun _ _ h => by cases h) (by rfl) (by rfl) (by have := HLEN.out; simp; omega) (Nat.le_refl _) (w0 := W4) (Below.refl _ W4).drew ?_; intro p w2 hown hold _ _)
        all_goals
          have HO := Lib.hid hown
          have HB2 := Lib.hid hold
          clear hown hold
          go_wp2_with fail
          go_ret
          refine ⟨_, rfl, HO.out.lower T4.out.size, ?_, T4.out.trans (Turn.of_below HB2.out)⟩
          rw [show i + (dataL L i).length = j by have := HLEN.out; omega]
          exact R4.out.below HB2.out
    · obtain rfl : j = n := by omega
      go_upto_region 2 with fail
      go_quiet (fail)
      go_upto_region 4 with fail
      have hk := dataL_stop L (j - i) i (by have := HD.out.le; have := HN.out; omega) (fun q h1 h2 => HD.out.all q h1 (by have := HD.out.le; omega)) (by rw [show i + (j - i) = j by have := HD.out.le; omega]; exact .inl HN.out)
      have hij : i < j := by
        have := HD.out.le
        rcases Nat.lt_or_ge i j with h | h
        · exact h
        · obtain rfl : i = j := by omega
          exact absurd HI.out (by omega)
      have hlen : (dataL L i).length = j - i := by rw [hk, List.length_take, List.length_drop]; have := HN.out; omega
      obtain ⟨W4, hW4⟩ : ∃ W4, W4 = wr.drewN nq := ⟨_, rfl⟩
      have rd4 : Rdr W4 b (some ⟨g, off, none⟩) cap L j := by rw [hW4]; exact HD.out.rd.drewN nq
      have t4 : Turn (At b) w W4 := by rw [hW4]; exact HD.out.t.trans (Turn.of_below (below_drewN (Below.refl _ _) _))
      rw [← hW4]
      obtain ⟨c40, c41, _⟩ := rd4.cells
      rw [← HN.out] at c40
      have hrow : RowOf .u8 W4.drew (.slice (some ⟨g, off + i, none⟩) (j - i) (cap - i)) (dataL L i) := by
        rw [hk]
        have hsub : RowOf .u8 W4 (.slice (some ⟨g, off + i, none⟩) (j - i) (cap - i)) ((L.drop i).take (j - i)) := sub_row (c := cap) rd4.row (Nat.le_of_lt hij) rd4.le
        exact hsub
      have HR := Lib.hid hrow
      have R4 := Lib.hid rd4
      have T4 := Lib.hid t4
      have HLEN := Lib.hid hlen
      have s1 : (i : Int) ≤ (j : Int) := by omega
      have s2 : (j : Int) ≤ (cap : Int) := by omega
      have s3 : (0 : Int) ≤ (i : Int) := Int.natCast_nonneg _
      have s4 : ¬ cap = i := by omega
      clear hW4 rd4 t4 hrow hk hlen c0 c1 f1 HDM
      go_region_law (refine step_append_row (by rfl) _ _ (by rfl) (OwnBytes.nil W4.heap.size W4.drew) HR.out (fun _ _ h => by cases h) (by rfl) (by rfl) (by have := HLEN.out; simp; omega) (Nat.le_refl _) (w0 := W4) (Below.refl _ W4).drew ?_; intro p w2 hown hold _ _)
      all_goals
        have HO := Lib.hid hown
        have HB2 := Lib.hid hold
        clear hown hold
        go_wp2_with fail
        go_ret
        refine ⟨_, rfl, HO.out.lower T4.out.size, ?_, T4.out.trans (Turn.of_below HB2.out)⟩
        rw [show i + (dataL L i).length = j by have := HLEN.out; omega]
        exact R4.out.below HB2.out
end
end Go.Proofs.YtmmgebiojpnhcaaDoor.Ord
