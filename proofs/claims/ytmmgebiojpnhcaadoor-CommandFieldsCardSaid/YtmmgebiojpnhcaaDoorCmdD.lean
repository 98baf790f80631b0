/-
  Commands plainly; in memory; rows of fields of the call's own; parts of a row of bytes.
-/
import Derived.Test.YtmmgebiojpnhcaaDoorCmdC
import Derived.Test.YtmmgebiojpnhcaaDoorOrdM
namespace Go.Proofs.YtmmgebiojpnhcaaDoor.Cmd
open Go.RowKit Base Go.Proofs.YtmmgebiojpnhcaaDoor.Ord
set_option linter.unusedVariables false
set_option linter.unusedSimpArgs false

/-! ### Plainly -/
structure Fl where
  id : Int
  op : Int
  kind : Int
  wcc : Int
  ords : List Or
  err : Int
structure Cm where
  kind : Int
  wcc : Int
  ords : List Or
  err : Int
  fields : List Fl
def Cm.zero : Cm := ⟨0, 0, [], 0, []⟩
def nthL (L : List Int) (i : Nat) : Int := L[i]?.getD 0
/-- What stands behind a WCC. -/
def ordsOf (L : List Int) : List Or := (parseL (L.drop 2) ((L.drop 2).length + 1) 0).1
def errsOf (L : List Int) : Int := errOf (parseL (L.drop 2) ((L.drop 2).length + 1) 0).2.2
/-- A command that isn't one of fields, and the error. -/
def oneM (L : List Int) : Cm × Int :=
  if L = [] then (Cm.zero, 30)
  else if toldK (nthL L 0) = 0 then (Cm.zero, 30)
  else if hasK (toldK (nthL L 0)) = true then (if L.length = 1 then (Cm.zero, 20) else (⟨toldK (nthL L 0), nthL L 1, ordsOf L, errsOf L, []⟩, 0))
  else (⟨toldK (nthL L 0), 0, [], 0, []⟩, 0)
def manyM (L : List Int) : Nat := if (nthL L 0 * 256 + nthL L 1).toNat = 0 then L.length else (nthL L 0 * 256 + nthL L 1).toNat
def cutM (L : List Int) : Option (List Int × List Int) :=
  if L.length < 2 then none
  else if manyM L ≤ 2 ∨ L.length < manyM L then none
  else some ((L.take (manyM L)).drop 2, L.drop (manyM L))
def fieldM (L : List Int) : Option Fl :=
  if nthL L 0 = 1 ∧ L.length = 3 then (if asK 1 (nthL L 2) 0 = true ∧ nthL L 1 = aheadK (nthL L 2) then some ⟨1, nthL L 2, 0, 0, [], 0⟩ else none)
  else if nthL L 0 = 3 ∧ L.length = 2 then (if asK 3 (nthL L 1) 0 = true then some ⟨3, nthL L 1, 0, 0, [], 0⟩ else none)
  else if nthL L 0 = 64 ∧ 3 ≤ L.length then (if asK 64 (nthL L 1) (toldK (nthL L 2)) = true ∧ (oneM (L.drop 2)).2 = 0 then some ⟨64, nthL L 1, (oneM (L.drop 2)).1.kind, (oneM (L.drop 2)).1.wcc, (oneM (L.drop 2)).1.ords, (oneM (L.drop 2)).1.err⟩ else none)
  else none
def fieldsM : Nat → List Int → List Fl × Int
  | 0, _ => ([], 34)
  | n + 1, L => if L = [] then ([], 0) else
    match cutM L with
    | none => ([], 34)
    | some (a, b) => match fieldM a with
      | none => ([], 34)
      | some f => (f :: (fieldsM n b).1, (fieldsM n b).2)
def cmdM (L : List Int) : Cm × Int :=
  if L ≠ [] ∧ toldK (nthL L 0) = 243 then (⟨243, 0, [], (fieldsM L.length (L.drop 1)).2, (fieldsM L.length (L.drop 1)).1⟩, 0) else oneM L

/-! ### In memory -/
abbrev FlP := Fl × Value × List OrdP
def flA (f : Fl) (vo : Value) : Array Value := #[.int .u8 f.id, .int .u8 f.op, .int .u8 f.kind, .int .u8 f.wcc, vo, .int .i64 f.err, .slice none 0 0]
def flC (Q : List FlP) : List Value := Q.flatMap fun q => (flA q.1 q.2.1).toList
theorem flC_append (P Q : List FlP) : flC (P ++ Q) = flC P ++ flC Q := by simp [flC]
theorem info_fls : (Tryd.prog.info? 39).map (fun i => (i.zero, i.size, i.bytes)) = some (some (.agg #[.int .u8 0, .int .u8 0, .int .u8 0, .int .u8 0, .slice none 0 0, .int .i64 0, .slice none 0 0]), 7, 72) := by kernel_rfl
theorem size_fl : (Tryd.prog.info? 39).map (·.size) = some 7 := by kernel_rfl
theorem size_cm : (Tryd.prog.info? 28).map (·.size) = some 5 := by kernel_rfl
structure FlsOwn (s : Nat) (w : World) (v : Value) (Q : List FlP) : Prop where
  row : w.ownsRow s 39 7 v Q.length (flC Q)
  own : ∀ q ∈ Q, OrdsOwn s w q.2.1 q.2.2 ∧ q.2.2.map (·.1) = q.1.ords
section
variable {s s' : Nat} {w w' : World} {v : Value} {Q : List FlP}
theorem fl_ne {v u : Value} {n m k s' : Nat} {t : TypeId} {xs ys : List Value} (ht : t ≠ 39) (h : w.ownsRow s 39 7 v n xs) (k : w.ownsRow s' t k u m ys) : ∀ g, v.ownBlock = some g → u.ownBlock = some g → False := by
  intro g e1 e2
  obtain ⟨c, fz, h1⟩ := Lib.ownsRow_kind h g e1
  obtain ⟨c', fz', h2⟩ := Lib.ownsRow_kind k g e2
  rw [h1] at h2
  injection h2 with h2
  injection h2 with _ h2
  exact ht h2.symm
theorem FlsOwn.nil (s : Nat) (w : World) : FlsOwn s w (.slice none 0 0) [] := ⟨⟨rfl, .inl ⟨rfl, rfl⟩⟩, by simp⟩
theorem FlsOwn.keep (h : FlsOwn s w v Q) (u : ∀ g, s ≤ g → g < w.heap.size → w'.heap[g]? = w.heap[g]?) : FlsOwn s w' v Q :=
  ⟨own_keep h.row fun g _ => u g, fun p hp => ⟨(h.own p hp).1.keep u, (h.own p hp).2⟩⟩
theorem FlsOwn.below (h : FlsOwn s w v Q) (u : Below w.heap.size w w') : FlsOwn s w' v Q := h.keep fun g _ hl => u.block g hl
theorem FlsOwn.lower (h : FlsOwn s w v Q) (hb : s' ≤ s) : FlsOwn s' w v Q := ⟨ownsRow_base h.row hb, fun p hp => ⟨(h.own p hp).1.lower hb, (h.own p hp).2⟩⟩
theorem FlsOwn.form (h : FlsOwn s w v Q) : ∃ a cap, v = .slice a Q.length cap := by
  rcases h.row.2 with ⟨rfl, h0⟩ | ⟨g, cap, cur, rfl, _⟩
  · exact ⟨none, 0, by rw [h0]⟩
  · exact ⟨_, _, rfl⟩
/-- One more. -/
theorem FlsOwn.grown {w1 : World} {v' vo : Value} {f : Fl} {P : List OrdP} {o : Obj} (h : FlsOwn s w v Q) (hp : OrdsOwn s w vo P) (hm : P.map (·.1) = f.ords) (hown : w1.ownsRow s 39 7 v' (Q.length + 1) (flC Q ++ (flA f vo).toList)) (hg : (w.alloc o).grownBy w1 v.ownBlock) : FlsOwn s w1 v' (Q ++ [(f, vo, P)]) := by
  have key : ∀ {e : TypeId} {k n : Nat} {u : Value} {xs : List Value}, e ≠ 39 → w.ownsRow s e k u n xs → w1.ownsRow s e k u n xs := fun {e k n u xs} he hq => by
    refine own_keep hq fun g hqg _ hl => ?_
    exact (hg.block g (by rw [World.size_alloc]; omega) fun ee => fl_ne he h.row hq g ee.symm hqg).trans (Below.heap_alloc _ _ _ hl)
  have ko : ∀ {u : Value} {R : List OrdP}, OrdsOwn s w u R → OrdsOwn s w1 u R := fun {u R} hq =>
    ⟨key (by decide) hq.row, fun p hp => ⟨key (by decide) (hq.own p hp).1, key (by decide) (hq.own p hp).2⟩⟩
  refine ⟨by rw [List.length_append, flC_append]; simpa [flC] using hown, fun p hpm => ?_⟩
  rcases List.mem_append.1 hpm with hpm | hpm
  · exact ⟨ko (h.own p hpm).1, (h.own p hpm).2⟩
  · rw [List.mem_singleton.1 hpm]; exact ⟨ko hp, hm⟩
end
/-- A command of the call's own. -/
def CmV (s : Nat) (w : World) (C : Cm) (V : Value) : Prop := ∃ vo vf P Q, V = .agg #[.int .u8 C.kind, .int .u8 C.wcc, vo, .int .i64 C.err, vf] ∧ OrdsOwn s w vo P ∧ P.map (·.1) = C.ords ∧ FlsOwn s w vf Q ∧ Q.map (·.1) = C.fields
theorem CmV.below {s : Nat} {w w' : World} {C : Cm} {V : Value} (h : CmV s w C V) (u : Below w.heap.size w w') : CmV s w' C V := by
  obtain ⟨vo, vf, P, Q, rfl, h1, h2, h3, h4⟩ := h
  exact ⟨vo, vf, P, Q, rfl, h1.below u, h2, h3.below u, h4⟩
theorem CmV.lower {s s' : Nat} {w : World} {C : Cm} {V : Value} (h : CmV s w C V) (hb : s' ≤ s) : CmV s' w C V := by
  obtain ⟨vo, vf, P, Q, rfl, h1, h2, h3, h4⟩ := h
  exact ⟨vo, vf, P, Q, rfl, h1.lower hb, h2, h3.lower hb, h4⟩
theorem CmV.zero (s : Nat) (w : World) : CmV s w Cm.zero (.agg #[.int .u8 0, .int .u8 0, .slice none 0 0, .int .i64 0, .slice none 0 0]) := ⟨_, _, [], [], rfl, OrdsOwn.nil _ _, rfl, FlsOwn.nil _ _, rfl⟩

/-! ### Parts of a row -/
theorem CutRow.nth {w : World} {a : Option Addr} {n c : Nat} {L : List Int} (h : CutRow w (.slice a n c) L) (hn : 0 < n) : n = L.length ∧ n ≤ c ∧ ∃ b off, a = some ⟨b, off, none⟩ ∧ ∀ i, i < n → w.cell? ⟨b, off + i, none⟩ = some (.int .u8 (nthL L i)) := by
  obtain ⟨⟨a1, c1, e1, hr⟩, a2, c2, e2, hc, _⟩ := h
  injection e1 with e1 en e3
  injection e2 with _ _ e3
  subst e1
  obtain ⟨b, off, ha, hi⟩ := hr (by intro e; rw [e] at en; simp at en; omega)
  exact ⟨en, by omega, b, off, ha, fun i h => hi i (by omega)⟩
theorem slice_mid {w : World} {a : Option Addr} {n c : Nat} {L : List Int} (h : CutRow w (.slice a n c) L) (l m : Nat) (hl : l ≤ m) (hm : m ≤ n) :
    CutRow w (sliced a l m c 1) ((L.take m).drop l) := by
  obtain ⟨⟨a1, c1, e1, hr⟩, a2, c2, e2, hc, hz⟩ := h
  injection e1 with e1 en e3
  injection e2 with e4 _ e3
  subst e1 e4 e3
  have hlen : ((L.take m).drop l).length = m - l := by rw [List.length_drop, List.length_take]; omega
  unfold sliced
  by_cases hcl : c = l
  · rw [if_pos hcl]
    have h0 : m - l = 0 := by omega
    have hnil : (L.take m).drop l = [] := List.eq_nil_of_length_eq_zero (by omega)
    rw [hnil, h0]
    exact ⟨⟨a, _, rfl, fun h => absurd rfl h⟩, a, _, rfl, Nat.zero_le _, fun _ => by omega⟩
  · rw [if_neg hcl]
    refine ⟨⟨_, _, by rw [hlen], fun hne => ?_⟩, _, _, by rw [hlen], by omega, fun e => ?_⟩
    · have hml : l < m := by
        have : ((L.take m).drop l).length ≠ 0 := fun e => hne (List.eq_nil_of_length_eq_zero e)
        omega
      obtain ⟨b, off, rfl, hi⟩ := hr (by intro e; rw [e] at en; simp at en; omega)
      refine ⟨b, off + l, by simp [add_off], fun i hilt => ?_⟩
      rw [hlen] at hilt
      rw [show off + l + i = off + (l + i) by omega, hi (l + i) (by omega), List.getElem?_drop, List.getElem?_take_of_lt (by omega)]
    · cases a with
      | none => have := hz rfl; omega
      | some p => cases e
theorem u8s_slice : Tryd.prog.underlying 22 = some (.slice (Tryd.prog.elem 22)) := by kernel_rfl
theorem u8s_size (w : World) : (sizeOf (Tryd.prog.elem 22)).run Tryd.prog w = .ok 1 w := by kernel_rfl
theorem slice_run {a : Option Addr} {n c : Nat} (l m : Nat) (hl : l ≤ m) (hm : m ≤ n) (hn : n ≤ c) (w : World) :
    (Instr.slice 22 (.slice a n c) (some (.int .i64 l)) (some (.int .i64 m)) none).run Tryd.prog w = .ok (sliced a l m c 1) w := by
  rw [run_slice_lh w 22 a n c u8s_slice .i64 .i64 l m (by omega) (by omega) (by omega), u8s_size]
  simp [Result.andThen]
theorem slice_run_from {a : Option Addr} {n c : Nat} (l : Nat) (hl : l ≤ n) (hn : n ≤ c) (w : World) :
    (Instr.slice 22 (.slice a n c) (some (.int .i64 l)) none none).run Tryd.prog w = .ok (sliced a l n c 1) w := by
  rw [run_slice_l w 22 a n c u8s_slice .i64 l (by omega) (by omega), u8s_size]
  simp [Result.andThen]
end Go.Proofs.YtmmgebiojpnhcaaDoor.Cmd
