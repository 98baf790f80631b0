/-
  Orders, as arguments: rows of orders that came in, and parts of them.
-/
import Derived.Test.YtglkjcdbffkbcaaPlAddr
import Derived.ProofKit
import Derived.OpenShut
import Derived.ChangeOld
import Derived.Lib.SmallJoins
import Derived.Deep.Slices
import Derived.Deep.Matrix
import Derived.Deep.Fields
namespace Go.Proofs.Ytglkjcdbffkbcaa.Pl
open Go.ChangeShapes Go.WideShapes Go.ChangeAt Go.RowKit Go.Joins Go.Deep Base
set_option linter.unusedVariables false
set_option linter.unusedSimpArgs false

/-- An order. -/
structure Or where
  kind : Int
  addr : Int
  byte : Int
  ge : Bool
  pairs : List (Int × Int)
  data : List Int
/-- A row of pairs that can be read. -/
def PrAt (w : World) (v : Value) (ps : List (Int × Int)) : Prop :=
  ∃ a cap, v = .slice a ps.length cap ∧ (ps ≠ [] → ∃ g off, a = some ⟨g, off, none⟩ ∧ ∀ i p, ps[i]? = some p → w.cell? ⟨g, off + i * 2, none⟩ = some (.int .u8 p.1) ∧ w.cell? ⟨g, off + i * 2 + 1, none⟩ = some (.int .u8 p.2))
theorem PrAt.kept {w w' : World} {v : Value} {ps : List (Int × Int)} (h : PrAt w v ps) (hc : ∀ b o x, w.cell? ⟨b, o, none⟩ = some x → w'.cell? ⟨b, o, none⟩ = some x) : PrAt w' v ps := by
  obtain ⟨a, cap, rfl, hr⟩ := h
  refine ⟨a, cap, rfl, fun hne => ?_⟩
  obtain ⟨g, off, rfl, hi⟩ := hr hne
  exact ⟨g, off, rfl, fun i p hp => ⟨hc _ _ _ (hi i p hp).1, hc _ _ _ (hi i p hp).2⟩⟩
abbrev OC (g f : Nat) (o : Or) (vp vd : Value) (W : World) : Prop := W.cell? ⟨g, f, none⟩ = some (.int .u8 o.kind) ∧ W.cell? ⟨g, f + 1, none⟩ = some (.int .i64 o.addr) ∧ W.cell? ⟨g, f + 2, none⟩ = some (.int .u8 o.byte) ∧ W.cell? ⟨g, f + 3, none⟩ = some (.bool o.ge) ∧ W.cell? ⟨g, f + 4, none⟩ = some vp ∧ W.cell? ⟨g, f + 5, none⟩ = some vd
/-- A row of orders that can be read, and its room. -/
def OrdsAt (w : World) (v : Value) (L : List Or) : Prop :=
  ∃ a cap, v = .slice a L.length cap ∧ L.length ≤ cap ∧ (a = none → cap = 0) ∧ (L ≠ [] → ∃ g off, a = some ⟨g, off, none⟩ ∧ ∀ i o, L[i]? = some o → ∃ vp vd, OC g (off + i * 6) o vp vd w ∧ PrAt w vp o.pairs ∧ RowOf .u8 w vd o.data)
theorem OrdsAt.kept {w w' : World} {v : Value} {L : List Or} (h : OrdsAt w v L) (hc : ∀ b o x, w.cell? ⟨b, o, none⟩ = some x → w'.cell? ⟨b, o, none⟩ = some x) : OrdsAt w' v L := by
  obtain ⟨a, cap, rfl, h1, h2, hr⟩ := h
  refine ⟨a, cap, rfl, h1, h2, fun hne => ?_⟩
  obtain ⟨g, off, rfl, hi⟩ := hr hne
  refine ⟨g, off, rfl, fun i o ho => ?_⟩
  obtain ⟨vp, vd, ⟨c0, c1, c2, c3, c4, c5⟩, hp, hd⟩ := hi i o ho
  exact ⟨vp, vd, ⟨hc _ _ _ c0, hc _ _ _ c1, hc _ _ _ c2, hc _ _ _ c3, hc _ _ _ c4, hc _ _ _ c5⟩, hp.kept hc, hd.kept hc⟩
theorem OrdsAt.below {w w' : World} {v : Value} {L : List Or} (h : OrdsAt w v L) (t : Below w.heap.size w w') : OrdsAt w' v L :=
  h.kept fun b o x hx => (t.cell (p := ⟨b, o, none⟩) (World.block_lt_of_cell? w ⟨b, o, none⟩ hx)).trans hx
/-- Where a part of a row of orders stands. -/
abbrev slicedO (a : Option Addr) (l m c : Nat) : Value := sliced a l m c 6
theorem ords_slice : Try.prog.underlying 61 = some (.slice (Try.prog.elem 61)) := by kernel_rfl
theorem ords_size (w : World) : (sizeOf (Try.prog.elem 61)).run Try.prog w = .ok 6 w := by kernel_rfl
/-- The same, in blocks that T tells. -/
def PrIn (T : Nat → Prop) (w : World) (v : Value) (ps : List (Int × Int)) : Prop :=
  ∃ a cap, v = .slice a ps.length cap ∧ (ps ≠ [] → ∃ g off, a = some ⟨g, off, none⟩ ∧ T g ∧ g < w.heap.size ∧ ∀ i p, ps[i]? = some p → w.cell? ⟨g, off + i * 2, none⟩ = some (.int .u8 p.1) ∧ w.cell? ⟨g, off + i * 2 + 1, none⟩ = some (.int .u8 p.2))
def OrdsIn (T : Nat → Prop) (w : World) (v : Value) (L : List Or) : Prop :=
  ∃ a cap, v = .slice a L.length cap ∧ L.length ≤ cap ∧ (a = none → cap = 0) ∧ (L ≠ [] → ∃ g off, a = some ⟨g, off, none⟩ ∧ T g ∧ g < w.heap.size ∧ ∀ i o, L[i]? = some o → ∃ vp vd, OC g (off + i * 6) o vp vd w ∧ PrIn T w vp o.pairs ∧ RowIn T .u8 w vd o.data)
section
variable {T S : Nat → Prop} {w w' : World} {v : Value}
theorem PrIn.at {ps : List (Int × Int)} (h : PrIn T w v ps) : PrAt w v ps := by
  obtain ⟨a, cap, e, hr⟩ := h
  exact ⟨a, cap, e, fun hne => by obtain ⟨g, off, e2, _, _, hi⟩ := hr hne; exact ⟨g, off, e2, hi⟩⟩
theorem PrAt.in {ps : List (Int × Int)} (h : PrAt w v ps) : PrIn (fun _ => True) w v ps := by
  obtain ⟨a, cap, e, hr⟩ := h
  refine ⟨a, cap, e, fun hne => ?_⟩
  obtain ⟨g, off, e2, hi⟩ := hr hne
  obtain ⟨p, hp⟩ : ∃ p, ps[0]? = some p := by cases ps with
    | nil => exact absurd rfl hne
    | cons p ps => exact ⟨p, rfl⟩
  exact ⟨g, off, e2, trivial, World.block_lt_of_cell? w ⟨_, _, none⟩ (hi 0 p hp).1, hi⟩
theorem PrIn.turn {ps : List (Int × Int)} (h : PrIn T w v ps) (t : Turn S w w') (hS : ∀ k, T k → k < w.heap.size → ¬ S k) : PrIn T w' v ps := by
  obtain ⟨a, cap, e, hr⟩ := h
  refine ⟨a, cap, e, fun hne => ?_⟩
  obtain ⟨g, off, e2, hT, hl, hi⟩ := hr hne
  have hb := t.block g hl (hS g hT hl)
  exact ⟨g, off, e2, hT, Nat.lt_of_lt_of_le hl t.size, fun i p hp => ⟨(cell_block hb _).trans (hi i p hp).1, (cell_block hb _).trans (hi i p hp).2⟩⟩
theorem PrIn.low {ps : List (Int × Int)} (h : PrIn T w v ps) : PrIn (fun k => T k ∧ k < w.heap.size) w v ps := by
  obtain ⟨a, cap, e, hr⟩ := h
  refine ⟨a, cap, e, fun hne => ?_⟩
  obtain ⟨g, off, e2, hT, hl, hi⟩ := hr hne
  exact ⟨g, off, e2, ⟨hT, hl⟩, hl, hi⟩
theorem PrIn.mono {ps : List (Int × Int)} (h : PrIn T w v ps) (hS : ∀ k, T k → S k) : PrIn S w v ps := by
  obtain ⟨a, cap, e, hr⟩ := h
  refine ⟨a, cap, e, fun hne => ?_⟩
  obtain ⟨g, off, e2, hT, hl, hi⟩ := hr hne
  exact ⟨g, off, e2, hS g hT, hl, hi⟩
theorem RowIn.turnL {L : List Int} {k : IntKind} (h : RowIn T k w v L) (t : Turn S w w') (hS : ∀ k, T k → k < w.heap.size → ¬ S k) : RowIn T k w' v L := by
  obtain ⟨a, cap, e, hr⟩ := h
  refine ⟨a, cap, e, fun hne => ?_⟩
  obtain ⟨g, off, e2, hT, hl, hi⟩ := hr hne
  have hb := t.block g hl (hS g hT hl)
  exact ⟨g, off, e2, hT, Nat.lt_of_lt_of_le hl t.size, fun i hp => (cell_block hb _).trans (hi i hp)⟩
variable {L : List Or}
theorem OrdsIn.turn (h : OrdsIn T w v L) (t : Turn S w w') (hS : ∀ k, T k → k < w.heap.size → ¬ S k) : OrdsIn T w' v L := by
  obtain ⟨a, cap, e, h1, h2, hr⟩ := h
  refine ⟨a, cap, e, h1, h2, fun hne => ?_⟩
  obtain ⟨g, off, e2, hT, hl, hi⟩ := hr hne
  have hb := t.block g hl (hS g hT hl)
  refine ⟨g, off, e2, hT, Nat.lt_of_lt_of_le hl t.size, fun i o ho => ?_⟩
  obtain ⟨vp, vd, ⟨c0, c1, c2, c3, c4, c5⟩, hp, hd⟩ := hi i o ho
  exact ⟨vp, vd, ⟨(cell_block hb _).trans c0, (cell_block hb _).trans c1, (cell_block hb _).trans c2, (cell_block hb _).trans c3, (cell_block hb _).trans c4, (cell_block hb _).trans c5⟩, hp.turn t hS, RowIn.turnL hd t hS⟩
theorem OrdsIn.mono (h : OrdsIn T w v L) (hS : ∀ k, T k → S k) : OrdsIn S w v L := by
  obtain ⟨a, cap, e, h1, h2, hr⟩ := h
  refine ⟨a, cap, e, h1, h2, fun hne => ?_⟩
  obtain ⟨g, off, e2, hT, hl, hi⟩ := hr hne
  refine ⟨g, off, e2, hS g hT, hl, fun i o ho => ?_⟩
  obtain ⟨vp, vd, hc, hp, hd⟩ := hi i o ho
  exact ⟨vp, vd, hc, hp.mono hS, hd.mono hS⟩
theorem OrdsIn.low (h : OrdsIn T w v L) : OrdsIn (fun k => T k ∧ k < w.heap.size) w v L := by
  obtain ⟨a, cap, e, h1, h2, hr⟩ := h
  refine ⟨a, cap, e, h1, h2, fun hne => ?_⟩
  obtain ⟨g, off, e2, hT, hl, hi⟩ := hr hne
  refine ⟨g, off, e2, ⟨hT, hl⟩, hl, fun i o ho => ?_⟩
  obtain ⟨vp, vd, hc, hp, hd⟩ := hi i o ho
  exact ⟨vp, vd, hc, hp.low, hd.low⟩
theorem OrdsAt.in (h : OrdsAt w v L) : OrdsIn (fun k => k < w.heap.size) w v L := by
  obtain ⟨a, cap, e, h1, h2, hr⟩ := h
  refine ⟨a, cap, e, h1, h2, fun hne => ?_⟩
  obtain ⟨g, off, e2, hi⟩ := hr hne
  obtain ⟨o, ho⟩ : ∃ o, L[0]? = some o := by cases L with
    | nil => exact absurd rfl hne
    | cons p ps => exact ⟨p, rfl⟩
  obtain ⟨_, _, hc, _, _⟩ := hi 0 o ho
  have hl := World.block_lt_of_cell? w ⟨_, _, none⟩ hc.1
  refine ⟨g, off, e2, hl, hl, fun i o ho => ?_⟩
  obtain ⟨vp, vd, hc, hp, hd⟩ := hi i o ho
  exact ⟨vp, vd, hc, hp.in.low.mono (fun k h => h.2), hd.lowK⟩
/-- A part of a row of orders. -/
theorem OrdsIn.part {a : Option Addr} {n c : Nat} (h : OrdsIn T w (.slice a n c) L) (l m : Nat) (hl : l ≤ m) (hm : m ≤ n) : OrdsIn T w (slicedO a l m c) ((L.take m).drop l) := by
  obtain ⟨a1, c1, e, h1, h2, hr⟩ := h
  injection e with e1 en e3
  subst e1 e3
  have hlen : ((L.take m).drop l).length = m - l := by rw [List.length_drop, List.length_take]; omega
  unfold slicedO sliced
  by_cases hcl : c = l
  · rw [if_pos hcl]
    have h0 : m - l = 0 := by omega
    have hnil : (L.take m).drop l = [] := List.eq_nil_of_length_eq_zero (by omega)
    rw [hnil, h0]
    exact ⟨a, _, rfl, Nat.zero_le _, fun e => by have := h2 e; omega, fun h => absurd rfl h⟩
  · rw [if_neg hcl]
    refine ⟨_, _, by rw [hlen], by rw [hlen]; omega, fun e => ?_, fun hne => ?_⟩
    · cases a with
      | none => have := h2 rfl; omega
      | some p => cases e
    · have hlm : l < m := by
        rcases Nat.lt_or_ge l m with h | h
        · exact h
        · exact absurd (List.eq_nil_of_length_eq_zero (by omega)) hne
      obtain ⟨g, off, e2, hT, hg, hi⟩ := hr (by intro e; rw [e, List.length_nil] at en; omega)
      subst e2
      refine ⟨g, off + l * 6, by simp [Addr.add], hT, hg, fun i o ho => ?_⟩
      rw [List.getElem?_drop, List.getElem?_take] at ho
      split at ho
      · have := hi (l + i) o ho
        rwa [show off + (l + i) * 6 = off + l * 6 + i * 6 by omega] at this
      · cases ho
end
theorem ords_slice_run {a : Option Addr} {n c : Nat} (l m : Nat) (hl : l ≤ m) (hm : m ≤ n) (hn : n ≤ c) (w : World) :
    (Instr.slice 61 (.slice a n c) (some (.int .i64 l)) (some (.int .i64 m)) none).run Try.prog w = .ok (slicedO a l m c) w := by
  rw [run_slice_lh w 61 a n c ords_slice .i64 .i64 l m (by omega) (by omega) (by omega), ords_size]
  simp [Result.andThen]
theorem ords_slice_from {a : Option Addr} {n c : Nat} (l : Nat) (hl : l ≤ n) (hn : n ≤ c) (w : World) :
    (Instr.slice 61 (.slice a n c) (some (.int .i64 l)) none none).run Try.prog w = .ok (slicedO a l n c) w := by
  rw [run_slice_l w 61 a n c ords_slice .i64 l (by omega) (by omega), ords_size]
  simp [Result.andThen]
theorem slicedO_zero (a : Option Addr) (m c : Nat) : slicedO a 0 m c = .slice a m c := by
  unfold slicedO sliced
  have : (a.map fun p => p.add (0 * 6)) = a := by cases a with
    | none => rfl
    | some p => simp [Addr.add]
  rw [this]
  split <;> rfl
theorem ords_slice_to {a : Option Addr} {n c : Nat} (m : Nat) (hm : m ≤ n) (hn : n ≤ c) (w : World) :
    (Instr.slice 61 (.slice a n c) none (some (.int .i64 m)) none).run Try.prog w = .ok (slicedO a 0 m c) w := by
  rw [run_slice_h w 61 a n c ords_slice .i64 m (by omega) (by omega), ords_size]
  simp [Result.andThen]
/-- Opened arguments. -/
def Byte (n : Int) : Prop := 0 ≤ n ∧ n < 256
def I64o (n : Int) : Prop := -9223372036854775808 ≤ n ∧ n ≤ 9223372036854775807
theorem obyte_bd {n : Int} (h : (Lit.int .u8 n).wf = true) : Byte n := by have := u8_bd h; unfold Byte; omega
theorem oadd_at (b off i : Nat) : (Addr.mk b off none).add i = ⟨b, off + i, none⟩ := by
  unfold Addr.add; split <;> simp_all
instance : Inhabited Or := ⟨⟨0, 0, 0, false, [], []⟩⟩
instance : Inhabited (Or × Value × Value) := ⟨(⟨0, 0, 0, false, [], []⟩, .slice none 0 0, .slice none 0 0)⟩
def Byte2o (p : Int × Int) : Prop := Byte p.1 ∧ Byte p.2
/-- An order that came in. -/
structure OrOk (o : Or) : Prop where
  kd : Byte o.kind
  ad : I64o o.addr
  by_ : Byte o.byte
  ps : o.pairs.length ≤ maxLen
  pb : ∀ p ∈ o.pairs, Byte2o p
  ds : o.data.length ≤ maxLen
  db : ∀ n ∈ o.data, Byte n
section
variable {H : Type} {enc : TypeId × Value → H} {W : World} {base fuel : Nat} {held : Bool} {x : DataW H × List MemPlace} {a : Option Addr} {len cap : Nat}
set_option maxRecDepth 100000 in
theorem data_open {u : Value} {t : TypeId} (ht : Try.prog.underlying t = some (.slice 5)) (h : DataW.trod enc Try.prog W base (fun _ => true) held fuel t [u] = some x) :
    ∃ L : List Int, RowOf .u8 W u L ∧ L.length ≤ maxLen ∧ (∀ n ∈ L, Byte n) := by
  rcases open_ints ht Try.underlying5 (by kernel_rfl) h with ⟨hcs, _⟩ | ⟨p, l, c, zs, hcs, _, hl, hm, hz, _, hcell, hwz⟩
  · simp at hcs
    subst hcs
    exact ⟨[], ⟨none, 0, rfl, fun h => absurd rfl h⟩, by simp [maxLen], fun _ h => absurd h (by simp)⟩
  · simp at hcs
    subst hcs
    simp at hz
    have hlen : (zs.take l).length = l := by rw [List.length_take]; omega
    refine ⟨zs.take l, ⟨some p, c, by rw [hlen], fun hne => ?_⟩, by omega, fun n hn => obyte_bd (hwz n (List.mem_of_mem_take hn))⟩
    have h0 : 0 < l := by
      rcases Nat.eq_zero_or_pos l with h | h
      · subst h; simp at hne
      · exact h
    obtain ⟨b, off, spot⟩ := p
    have hspot : spot = none := by simpa [Addr.add] using World.cell?_spot (hcell 0 (by omega))
    subst hspot
    refine ⟨b, off, rfl, fun i hi => ?_⟩
    have h1 := hcell i (by omega)
    rw [oadd_at] at h1
    rw [h1, List.getElem?_take_of_lt (by omega)]
    rfl
set_option maxRecDepth 100000 in
theorem pairs_one_open {u : Value} (h : DataW.trod enc Try.prog W base (fun _ => true) held fuel 71 [u] = some x) :
    ∃ L : List (Int × Int), PrAt W u L ∧ L.length ≤ maxLen ∧ ∀ p ∈ L, Byte2o p := by
  rcases open_slice Try.underlying71 h with ⟨hcs, _⟩ | ⟨p, l, c, m, n, D, Pl, hcs, _, hl, hm, hmm, hcm, hx⟩
  · simp at hcs
    subst hcs
    exact ⟨[], ⟨none, 0, rfl, fun h => absurd rfl h⟩, by simp [maxLen], fun _ h => absurd h (by simp)⟩
  · simp at hcs
    subst hcs
    simp at hmm
    have hC : Try.prog.cellsOf 174 = 2 := by kernel_rfl
    have c3 : Try.prog.cellsOf 5 = 1 := by kernel_rfl
    have one : ∀ i, i < m → ∃ q : Int × Int, Byte2o q ∧ W.cell? (p.add (i * 2)) = some (.int .u8 q.1) ∧ W.cell? ((p.add (i * 2)).add 1) = some (.int .u8 q.2) := by
      intro i hi
      obtain ⟨cs', hc, htr⟩ := hx i hi
      rw [hC] at hc
      obtain ⟨xs, n', _, _, hl3, hxl, hf⟩ := DataW.trod_struct Try.underlying174 htr
      obtain ⟨_, _, hat⟩ := World.cells?_some hc
      rw [hC] at hl3
      match cs', hl3 with
      | [u0, u1], _ =>
        match xs, hxl with
        | [y0, y1], _ =>
          have f0 := hf 0 _ rfl
          have f1 := hf 1 _ rfl
          simp [c3] at f0 f1
          obtain ⟨n1, e1, _, w1⟩ := DataW.trod_int Try.underlying5 f0
          obtain ⟨n2, e2, _, w2⟩ := DataW.trod_int Try.underlying5 f1
          simp at e1 e2
          subst e1 e2
          refine ⟨(n1, n2), ⟨obyte_bd w1, obyte_bd w2⟩, ?_, ?_⟩
          · have := hat 0 (by omega)
            simpa [Addr.add] using this
          · simpa using hat 1 (by omega)
    obtain ⟨f, hf⟩ := choose_lt one
    have hlen : ((List.range l).map f).length = l := by simp
    have hlm : l ≤ m := by omega
    refine ⟨(List.range l).map f, ⟨some p, c, by rw [hlen], fun hne => ?_⟩, by rw [hlen]; omega, ?_⟩
    · have h0 : 0 < l := by
        rcases Nat.eq_zero_or_pos l with h | h
        · subst h; simp at hne
        · exact h
      obtain ⟨b, off, spot⟩ := p
      have h00 := (hf 0 (by omega)).2.1
      have hspot : spot = none := by simpa [Addr.add] using World.cell?_spot h00
      subst hspot
      refine ⟨b, off, rfl, fun i q hi => ?_⟩
      obtain ⟨hi1, hi2⟩ := List.getElem?_eq_some_iff.1 hi
      simp at hi1 hi2
      obtain ⟨_, g0, g1⟩ := hf i (by omega)
      rw [hi2] at g0 g1
      rw [oadd_at] at g0 g1
      rw [oadd_at] at g1
      exact ⟨g0, g1⟩
    · intro q hq
      obtain ⟨i, hi, rfl⟩ := List.mem_map.1 hq
      have := List.mem_range.1 hi
      exact (hf i (by omega)).1
set_option maxRecDepth 100000 in
theorem orders_open (h : DataW.trod enc Try.prog W base (fun _ => true) held fuel 61 (Value.cells (.slice a len cap)).toList = some x) :
    ∃ L : List Or, OrdsAt W (.slice a len cap) L ∧ L.length ≤ maxLen ∧ ∀ o ∈ L, OrOk o := by
  rcases open_slice Try.underlying61 h with ⟨hcs, _⟩ | ⟨p, l, c, m, n, D, Pl, hcs, _, hl, hm, hmm, _, hx⟩
  · simp [Value.cells] at hcs
    obtain ⟨rfl, rfl, rfl⟩ := hcs
    exact ⟨[], ⟨none, 0, rfl, Nat.le_refl _, fun _ => rfl, fun h => absurd rfl h⟩, by simp [maxLen], fun _ h => absurd h (by simp)⟩
  · simp [Value.cells] at hcs
    obtain ⟨rfl, rfl, rfl⟩ := hcs
    simp at hmm
    subst hmm
    have hC : Try.prog.cellsOf 73 = 6 := by kernel_rfl
    have c3 : Try.prog.cellsOf 5 = 1 := by kernel_rfl
    have c4 : Try.prog.cellsOf 3 = 1 := by kernel_rfl
    have c5 : Try.prog.cellsOf 43 = 1 := by kernel_rfl
    have c6 : Try.prog.cellsOf 4 = 1 := by kernel_rfl
    have c7 : Try.prog.cellsOf 71 = 1 := by kernel_rfl
    have one : ∀ i, i < m → ∃ q : Or × Value × Value, OrOk q.1 ∧ W.cell? (p.add (i * 6)) = some (.int .u8 q.1.kind) ∧ W.cell? ((p.add (i * 6)).add 1) = some (.int .i64 q.1.addr) ∧ W.cell? ((p.add (i * 6)).add 2) = some (.int .u8 q.1.byte) ∧ W.cell? ((p.add (i * 6)).add 3) = some (.bool q.1.ge) ∧ W.cell? ((p.add (i * 6)).add 4) = some q.2.1 ∧ W.cell? ((p.add (i * 6)).add 5) = some q.2.2 ∧ PrAt W q.2.1 q.1.pairs ∧ RowOf .u8 W q.2.2 q.1.data := by
      intro i hi
      obtain ⟨cs', hc, htr⟩ := hx i hi
      rw [hC] at hc
      obtain ⟨xs, n', _, _, hl3, hxl, hf⟩ := DataW.trod_struct Try.underlying73 htr
      obtain ⟨_, _, hat⟩ := World.cells?_some hc
      rw [hC] at hl3
      match cs', hl3 with
      | [u0, u1, u2, u3, u4, u5], _ =>
        match xs, hxl with
        | [y0, y1, y2, y3, y4, y5], _ =>
          have f0 := hf 0 _ rfl
          have f1 := hf 1 _ rfl
          have f2 := hf 2 _ rfl
          have f3 := hf 3 _ rfl
          have f4 := hf 4 _ rfl
          have f5 := hf 5 _ rfl
          simp [c3, c4, c5, c6, c7] at f0 f1 f2 f3 f4 f5
          obtain ⟨n0, e0, _, w0⟩ := DataW.trod_int Try.underlying5 f0
          obtain ⟨n1, e1, _, w1⟩ := DataW.trod_int Try.underlying3 f1
          obtain ⟨n2, e2, _, w2⟩ := DataW.trod_int Try.underlying5 f2
          obtain ⟨n3, e3, _⟩ := DataW.trod_bool Try.underlying4 f3
          obtain ⟨L4, r4, l4, b4⟩ := pairs_one_open f4
          obtain ⟨L5, r5, l5, b5⟩ := data_open Try.underlying43 f5
          simp at e0 e1 e2 e3
          subst e0 e1 e2 e3
          refine ⟨(⟨n0, n1, n2, n3, L4, L5⟩, u4, u5), ⟨obyte_bd w0, i64_bd w1, obyte_bd w2, l4, b4, l5, b5⟩, ?_, ?_, ?_, ?_, ?_, ?_, r4, r5⟩
          · have := hat 0 (by omega)
            simpa [Addr.add] using this
          · simpa using hat 1 (by omega)
          · simpa using hat 2 (by omega)
          · simpa using hat 3 (by omega)
          · simpa using hat 4 (by omega)
          · simpa using hat 5 (by omega)
    obtain ⟨f, hf⟩ := choose_lt one
    have hlen : ((List.range len).map fun i => (f i).1).length = len := by simp
    refine ⟨(List.range len).map fun i => (f i).1, ⟨some p, m, by rw [hlen], by rw [hlen]; omega, (fun e => by cases e), fun hne => ?_⟩, by rw [hlen]; omega, ?_⟩
    · have h0 : 0 < len := by
        rcases Nat.eq_zero_or_pos len with h | h
        · subst h; simp at hne
        · exact h
      obtain ⟨b, off, spot⟩ := p
      have h00 := (hf 0 (by omega)).2.1
      have hspot : spot = none := by simpa [Addr.add] using World.cell?_spot h00
      subst hspot
      refine ⟨b, off, rfl, fun i e hi => ?_⟩
      obtain ⟨hi1, hi2⟩ := List.getElem?_eq_some_iff.1 hi
      simp at hi1 hi2
      obtain ⟨_, g0, g1, g2, g3, g4, g5, g6, g7⟩ := hf i (by omega)
      rw [hi2] at g0 g1 g2 g3 g6 g7
      rw [oadd_at] at g0 g1 g2 g3 g4 g5
      rw [oadd_at] at g1 g2 g3 g4 g5
      exact ⟨(f i).2.1, (f i).2.2, ⟨g0, g1, g2, g3, g4, g5⟩, g6, g7⟩
    · intro q hq
      obtain ⟨i, hi, rfl⟩ := List.mem_map.1 hq
      have := List.mem_range.1 hi
      exact (hf i (by omega)).1
end
end Go.Proofs.Ytglkjcdbffkbcaa.Pl
