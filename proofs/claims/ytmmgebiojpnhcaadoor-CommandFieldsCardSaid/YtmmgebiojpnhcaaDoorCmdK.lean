/-
  Are two commands alike, but for what stands in their fields?
-/
import Derived.Test.YtmmgebiojpnhcaaDoorCmdJ
import Derived.Test.YtmmgebiojpnhcaaDoorCmdI
import Derived.Test.YtmmgebiojpnhcaaDoorOrdZC
namespace Go.Proofs.YtmmgebiojpnhcaaDoor.Cmd
open Go.RowKit Base Go.Proofs.YtmmgebiojpnhcaaDoor.Ord
set_option linter.unusedVariables false
set_option linter.unusedSimpArgs false

/-- The cells of a field. -/
abbrev FC (g o : Nat) (f : Fl) (vo : Value) (W : World) : Prop := W.cell? ⟨g, o, none⟩ = some (.int .u8 f.id) ∧ W.cell? ⟨g, o + 1, none⟩ = some (.int .u8 f.op) ∧ W.cell? ⟨g, o + 2, none⟩ = some (.int .u8 f.kind) ∧ W.cell? ⟨g, o + 3, none⟩ = some (.int .u8 f.wcc) ∧ W.cell? ⟨g, o + 4, none⟩ = some vo ∧ W.cell? ⟨g, o + 5, none⟩ = some (.int .i64 f.err) ∧ W.cell? ⟨g, o + 6, none⟩ = some (.slice none 0 0)
theorem FC.below {g o : Nat} {f : Fl} {vo : Value} {w w' : World} (h : FC g o f vo w) (t : Below w.heap.size w w') : FC g o f vo w' := by
  obtain ⟨h0, h1, h2, h3, h4, h5, h6⟩ := h
  have hl := World.block_lt_of_cell? w ⟨g, o, none⟩ h0
  exact ⟨(cell_block (t.block g hl) _).trans h0, (cell_block (t.block g hl) _).trans h1, (cell_block (t.block g hl) _).trans h2, (cell_block (t.block g hl) _).trans h3, (cell_block (t.block g hl) _).trans h4, (cell_block (t.block g hl) _).trans h5, (cell_block (t.block g hl) _).trans h6⟩
/-- A row of fields that can be read. -/
def FlsAt (w : World) (v : Value) (L : List Fl) : Prop :=
  ∃ a cap, v = .slice a L.length cap ∧ (L ≠ [] → ∃ g off, a = some ⟨g, off, none⟩ ∧ g < w.heap.size ∧ ∀ i f, L[i]? = some f → ∃ vo, FC g (off + i * 7) f vo w ∧ OrdsAt2 w vo f.ords)
theorem FlsAt.below {w w' : World} {v : Value} {L : List Fl} (h : FlsAt w v L) (t : Below w.heap.size w w') : FlsAt w' v L := by
  obtain ⟨a, cap, rfl, hr⟩ := h
  refine ⟨a, cap, rfl, fun hne => ?_⟩
  obtain ⟨g, off, rfl, hg, hi⟩ := hr hne
  refine ⟨g, off, rfl, Nat.lt_of_lt_of_le hg t.size, fun i f hf => ?_⟩
  obtain ⟨vo, h1, h2⟩ := hi i f hf
  exact ⟨vo, FC.below h1 t, h2.below t⟩
theorem flC_get : ∀ (P : List FlP) (i : Nat) (p : FlP), P[i]? = some p → (flC P)[i * 7]? = some (.int .u8 p.1.id) ∧ (flC P)[i * 7 + 1]? = some (.int .u8 p.1.op) ∧ (flC P)[i * 7 + 2]? = some (.int .u8 p.1.kind) ∧ (flC P)[i * 7 + 3]? = some (.int .u8 p.1.wcc) ∧ (flC P)[i * 7 + 4]? = some p.2.1 ∧ (flC P)[i * 7 + 5]? = some (.int .i64 p.1.err) ∧ (flC P)[i * 7 + 6]? = some (.slice none 0 0)
  | [], i, p, h => by simp at h
  | q :: P, 0, p, h => by
    obtain rfl : q = p := by simpa using h
    exact ⟨rfl, rfl, rfl, rfl, rfl, rfl, rfl⟩
  | q :: P, i + 1, p, h => by
    have := flC_get P i p (by simpa using h)
    rw [show (i + 1) * 7 = i * 7 + 1 + 1 + 1 + 1 + 1 + 1 + 1 by omega]
    exact this
theorem FlsOwn.at {s : Nat} {w : World} {v : Value} {P : List FlP} (h : FlsOwn s w v P) : FlsAt w v (P.map (·.1)) := by
  rcases h.row.2 with ⟨rfl, hn⟩ | ⟨g, cap, cur, rfl, hg, hgb, hrest⟩
  · have : P = [] := List.eq_nil_of_length_eq_zero hn
    subst this
    exact ⟨none, 0, rfl, fun h => absurd rfl h⟩
  · refine ⟨some ⟨g, 0, none⟩, cap, by rw [List.length_map], fun hne => ⟨g, 0, rfl, lt_of_block hgb, fun i f hf => ?_⟩⟩
    rw [List.getElem?_map] at hf
    cases hp : P[i]? with
    | none => rw [hp] at hf; cases hf
    | some p =>
      rw [hp] at hf
      obtain rfl : p.1 = f := by simpa using hf
      obtain ⟨f0, f1, f2, f3, f4, f5, f6⟩ := flC_get P i p hp
      obtain ⟨hpo, hpm⟩ := h.own p (List.mem_of_getElem? hp)
      refine ⟨p.2.1, ?_, by rw [← hpm]; exact hpo.at2⟩
      rw [show (0 : Nat) + i * 7 = i * 7 from Nat.zero_add _]
      exact ⟨own_cell h.row _ _ f0, own_cell h.row _ _ f1, own_cell h.row _ _ f2, own_cell h.row _ _ f3, own_cell h.row _ _ f4, own_cell h.row _ _ f5, own_cell h.row _ _ f6⟩
/-- A command that can be read. -/
def CmR (w : World) (C : Cm) (V : Value) : Prop := ∃ vo vf, V = .agg #[.int .u8 C.kind, .int .u8 C.wcc, vo, .int .i64 C.err, vf] ∧ OrdsAt2 w vo C.ords ∧ FlsAt w vf C.fields
theorem CmR.below {w w' : World} {C : Cm} {V : Value} (h : CmR w C V) (t : Below w.heap.size w w') : CmR w' C V := by
  obtain ⟨vo, vf, e, h1, h2⟩ := h
  exact ⟨vo, vf, e, h1.below t, h2.below t⟩
theorem CmV.r {s : Nat} {w : World} {C : Cm} {V : Value} (h : CmV s w C V) : CmR w C V := by
  obtain ⟨vo, vf, P, Q, rfl, h1, h2, h3, h4⟩ := h
  exact ⟨vo, vf, rfl, by rw [← h2]; exact h1.at2, by rw [← h4]; exact h3.at⟩
/-- Orders that Same may be asked of. -/
def OsOk (L : List Or) : Prop := L.length ≤ 1000000 ∧ ∀ o ∈ L, o.Ok
def alikeK (a b : Cm) : Bool := decide (a.kind = b.kind) && decide (a.wcc = b.wcc) && decide (a.err = b.err) && decide (a.ords = b.ords) && decide (a.fields.length = b.fields.length)
set_option maxRecDepth 100000 in
set_option maxHeartbeats 4000000 in
theorem alike_any {w : World} {a b : Cm} {u v : Value} (h : CmR w a u) (k : CmR w b v) (ha : OsOk a.ords) (hb : OsOk b.ords) : Calls Tryd.prog 31 #[u, v] w fun e w' => e = .returned (.bool (alikeK a b)) ∧ Below w.heap.size w w' := by
  obtain ⟨vo, vf, rfl, hp, hd⟩ := h
  obtain ⟨vo2, vf2, rfl, hp2, hd2⟩ := k
  obtain ⟨k1, c1, o1, e1, f1⟩ := a
  obtain ⟨k2, c2, o2, e2, f2⟩ := b
  simp only at hp hd hp2 hd2 ha hb
  obtain ⟨fa, fc, rfl, _⟩ := hd
  obtain ⟨fa2, fc2, rfl, _⟩ := hd2
  have x1 := below_alloc w (.cells #[.int .u8 k1, .int .u8 c1, vo, .int .i64 e1, .slice fa f1.length fc] 28)
  have y1 := heap_alloc_new w (.cells #[.int .u8 k1, .int .u8 c1, vo, .int .i64 e1, .slice fa f1.length fc] 28)
  have z1 := World.size_alloc w (.cells #[.int .u8 k1, .int .u8 c1, vo, .int .i64 e1, .slice fa f1.length fc] 28)
  obtain ⟨W1, hW1⟩ : ∃ W1, W1 = w.alloc (.cells #[.int .u8 k1, .int .u8 c1, vo, .int .i64 e1, .slice fa f1.length fc] 28) := ⟨_, rfl⟩
  rw [← hW1] at x1 y1 z1
  have x2 := below_alloc W1 (.cells #[.int .u8 k2, .int .u8 c2, vo2, .int .i64 e2, .slice fa2 f2.length fc2] 28)
  have y2 := heap_alloc_new W1 (.cells #[.int .u8 k2, .int .u8 c2, vo2, .int .i64 e2, .slice fa2 f2.length fc2] 28)
  obtain ⟨W2, hW2⟩ : ∃ W2, W2 = W1.alloc (.cells #[.int .u8 k2, .int .u8 c2, vo2, .int .i64 e2, .slice fa2 f2.length fc2] 28) := ⟨_, rfl⟩
  rw [← hW2] at x2 y2
  have y3 := (x2.block _ (lt_of_block y1)).trans y1
  obtain ⟨s, hs⟩ : ∃ s, s = w.heap.size := ⟨_, rfl⟩
  have hold : Below w.heap.size w W2 := x1.trans (x2.mono x1.size)
  obtain ⟨R, hR⟩ : ∃ R, R = alikeK ⟨k1, c1, o1, e1, f1⟩ ⟨k2, c2, o2, e2, f2⟩ := ⟨_, rfl⟩
  rw [← hR]
  unfold alikeK at hR
  simp only at hR
  have HE := Lib.hid (eqOrders_any (hp.below hold).at (hp2.below hold).at ha.2 hb.2 ha.1 hb.1)
  obtain ⟨n1, hn1⟩ : ∃ n, n = f1.length := ⟨_, rfl⟩
  obtain ⟨n2, hn2⟩ : ∃ n, n = f2.length := ⟨_, rfl⟩
  rw [← hn1] at hR hW1 y3
  rw [← hn2] at hR hW2 y2
  rw [← hs] at y3
  rw [z1, ← hs] at y2
  obtain ⟨q0, q1, q2, q3, q4, _⟩ := cells5 y3
  obtain ⟨r0, r1, r2, r3, r4, _⟩ := cells5 y2
  have HW1 := Lib.hid hW1.symm
  have HW2 := Lib.hid hW2.symm
  have HS := Lib.hid hs.symm
  have HO := Lib.hid hold
  rw [← hn1, ← hn2]
  obtain ⟨x, hx⟩ : ∃ x, x = decide (o1 = o2) := ⟨_, rfl⟩
  rw [← hx] at HE hR
  clear x1 y1 z1 x2 y2 y3 hW1 hW2 hs hold hp hp2 ha hb hx hn1 hn2
  by_cases t1 : k1 = k2
  case neg =>
    have t1' : (k1 == k2) = false := by simpa using t1
    rw [decide_eq_false t1] at hR
    obtain rfl : R = false := by simpa using hR
    clear hR t1
    go_enter Tryd.func31, Tryd.ntmps31
    go_upto_region 1 with fail
    rw [HW1.out, HW2.out, HS.out]
    go_wp2_with fail
    go_ret
    exact ⟨rfl, HO.out⟩
  subst t1
  by_cases t1 : c1 = c2
  case neg =>
    have t1' : (c1 == c2) = false := by simpa using t1
    rw [decide_eq_false t1] at hR
    obtain rfl : R = false := by simpa using hR
    clear hR t1
    go_enter Tryd.func31, Tryd.ntmps31
    go_upto_region 1 with fail
    rw [HW1.out, HW2.out, HS.out]
    go_wp2_with fail
    go_ret
    exact ⟨rfl, HO.out⟩
  subst t1
  by_cases t1 : e1 = e2
  case neg =>
    have t1' : (e1 == e2) = false := by simpa using t1
    rw [decide_eq_false t1] at hR
    obtain rfl : R = false := by simpa using hR
    clear hR t1
    go_enter Tryd.func31, Tryd.ntmps31
    go_upto_region 1 with fail
    rw [HW1.out, HW2.out, HS.out]
    go_wp2_with fail
    go_ret
    exact ⟨rfl, HO.out⟩
  subst t1
  replace hR : R = (x && decide (n1 = n2)) := by simpa using hR
  cases x
  · obtain rfl : R = false := by simpa using hR
    clear hR
    go_enter Tryd.func31, Tryd.ntmps31
    go_upto_region 1 with fail
    rw [HW1.out, HW2.out, HS.out]
    go_wp2_with fail
    refine HE.out.mono ?_
    rintro e w' ⟨rfl, b3⟩
    have HB3 := Lib.hid (HO.out.trans (b3.mono HO.out.size))
    clear b3
    go_wp2_with fail
    go_ret
    exact ⟨rfl, HB3.out⟩
  · have hz : ((n1 : Int) == (n2 : Int)) = R := by
      rw [hR]
      by_cases e : n1 = n2
      · subst e; simp
      · simp [e]; omega
    clear hR
    go_enter Tryd.func31, Tryd.ntmps31
    go_upto_region 1 with fail
    rw [HW1.out, HW2.out, HS.out]
    go_wp2_with fail
    refine HE.out.mono ?_
    rintro e w' ⟨rfl, b3⟩
    have HB3 := Lib.hid (HO.out.trans (b3.mono HO.out.size))
    have q4 := (b3.cell (World.block_lt_of_cell? W2 _ q4)).trans q4
    have r4 := (b3.cell (World.block_lt_of_cell? W2 _ r4)).trans r4
    clear b3
    go_wp2_with fail
    go_ret
    exact ⟨ret_bool (by first | exact hz | (rw [← hz]; simp) | simp_all), HB3.out⟩
end Go.Proofs.YtmmgebiojpnhcaaDoor.Cmd
