/-
  The table of commands: a byte's kind and name; a WCC's bits.
-/
import Derived.Test.YtmmgebiojpnhcaaDoorBase
import Derived.Lib.LaidTab
import Derived.Deep.Strs
namespace Go.Proofs.YtmmgebiojpnhcaaDoor.Cmd
open Go.RowKit Base
set_option linter.unusedVariables false
set_option linter.unusedSimpArgs false

/-! ### The table -/
def tabK : List (Int × Int × ByteArray) := [(241, 1, ⟨#[87]⟩), (245, 5, ⟨#[69, 87]⟩), (126, 13, ⟨#[69, 87, 65]⟩), (111, 15, ⟨#[69, 65, 85]⟩), (242, 2, ⟨#[82, 66]⟩), (246, 6, ⟨#[82, 77]⟩), (110, 14, ⟨#[82, 77, 65]⟩), (243, 17, ⟨#[87, 83, 70]⟩)]
def tabV : Array Value := #[.int .u8 241, .int .u8 1, .string ⟨#[87]⟩, .int .u8 245, .int .u8 5, .string ⟨#[69, 87]⟩, .int .u8 126, .int .u8 13, .string ⟨#[69, 87, 65]⟩, .int .u8 111, .int .u8 15, .string ⟨#[69, 65, 85]⟩, .int .u8 242, .int .u8 2, .string ⟨#[82, 66]⟩, .int .u8 246, .int .u8 6, .string ⟨#[82, 77]⟩, .int .u8 110, .int .u8 14, .string ⟨#[82, 77, 65]⟩, .int .u8 243, .int .u8 17, .string ⟨#[87, 83, 70]⟩]
/-- The table holds what its initialiser lays. -/
def Tbl (w : World) : Prop := ∃ t z, w.heap[0]? = some (.cells tabV t z)
theorem Tbl.below {w w' : World} (h : Tbl w) (t : Below w.heap.size w w') : Tbl w' := by
  obtain ⟨a, b, h⟩ := h
  exact ⟨a, b, (t.block 0 (lt_of_block h)).trans h⟩
theorem elem_of {H : Type} {enc : TypeId × Value → H} {w : World} {base : Nat} {sp : Nat → Bool} {held : Bool} {fuel : Nat} {cs : List Value} {p : List MemPlace} {a b : Int} {s : List UInt8}
    (h : DataW.trod enc Tryd.prog w base sp held fuel 65 cs = some (.agg [.lit (.int .u8 a), .lit (.int .u8 b), .lit (.string s)], p)) : cs = [.int .u8 a, .int .u8 b, .string ⟨s.toArray⟩] := by
  have hc : Tryd.prog.cellsOf 65 = 3 := by kernel_rfl
  have hu : Tryd.prog.cellsOf 5 = 1 := by kernel_rfl
  have hs : Tryd.prog.cellsOf 9 = 1 := by kernel_rfl
  obtain ⟨f0, f1, f2, ht, e0, o0, e1, o1, e2, o2⟩ : ∃ f0 f1 f2 : Field, Tryd.prog.underlying 65 = some (.struct #[f0, f1, f2]) ∧ f0.type = 5 ∧ f0.offset = 0 ∧ f1.type = 5 ∧ f1.offset = 1 ∧ f2.type = 9 ∧ f2.offset = 2 :=
    ⟨_, _, _, Tryd.underlying65, rfl, rfl, rfl, rfl, rfl, rfl⟩
  obtain ⟨y0, y1, y2, n, hx, hl, h0, h1, h2⟩ := Deep.trod_struct3 ht h
  rw [e0, o0, hu] at h0
  rw [e1, o1, hu] at h1
  rw [e2, o2, hs] at h2
  obtain ⟨z0, c0, r0, _⟩ := DataW.trod_int Tryd.underlying5 h0
  obtain ⟨z1, c1, r1, _⟩ := DataW.trod_int Tryd.underlying5 h1
  obtain ⟨z2, c2, r2, _⟩ := DataW.trod_string Tryd.underlying9 h2
  rw [r0, r1, r2] at hx
  simp only [Prod.mk.injEq, DataW.agg.injEq, List.cons.injEq, DataW.lit.injEq, Lit.int.injEq, Lit.string.injEq, true_and, and_true] at hx
  obtain ⟨⟨ha, hb, hs⟩, _⟩ := hx
  rw [hc] at hl
  match cs, hl with
  | [x0, x1, x2], _ =>
    simp at c0 c1 c2
    subst c0 c1 c2 ha hb
    rw [hs]
theorem elem_at {H : Type} {enc : TypeId × Value → H} {w : World} {base : Nat} {sp : Nat → Bool} {held : Bool} {fuel n : Nat} {t e : TypeId} {cs : List Value} {ds : List (DataW H)} {p : List MemPlace} (hu : Tryd.prog.underlying t = some (.array n e))
    (h : DataW.trod enc Tryd.prog w base sp held fuel t cs = some (.agg ds, p)) (i : Nat) (hi : i < n) : ∃ f d q, ds[i]? = some d ∧ DataW.trod enc Tryd.prog w base sp held f e ((cs.drop (i * Tryd.prog.cellsOf e)).take (Tryd.prog.cellsOf e)) = some (d, q) := by
  cases fuel with
  | zero => simp [DataW.trod] at h
  | succ f =>
    simp only [DataW.trod, hu] at h
    by_cases hl : cs.length = Tryd.prog.cellsOf t
    · rw [if_pos hl] at h
      obtain ⟨ys, hys, hx⟩ := Option.map_eq_some_iff.1 h
      obtain ⟨y, hy, hf⟩ := Lib.mapM_at hys i i (by simp [hi])
      have e1 := congrArg Prod.fst hx
      simp only [DataW.agg.injEq] at e1
      exact ⟨f, y.1, y.2, by rw [← e1, List.getElem?_map, hy]; rfl, hf⟩
    · rw [if_neg hl] at h; cases h
set_option maxRecDepth 100000 in
theorem tbl_of {W : World} (h : laidMetH Tryd.prog [("greenscreen/command.commands", Rows.laid_greenscreen_command_commands)] W) : Tbl W := by
  have h1 : laidMet Tryd.prog [("greenscreen/command.commands", Rows.laid_greenscreen_command_commands)] W := h
  obtain ⟨ps, ⟨g, t, cs, fuel, p, q, hg, ht, hvar, hd, _, _⟩, _⟩ := h1
  have hg0 : Tryd.prog.globalNamed "greenscreen/command.commands" = some 0 := by kernel_rfl
  have ht0 : (Tryd.prog.globals[0]?).map (·.type) = some 97 := by kernel_rfl
  obtain rfl := Option.some.inj (hg0.symm.trans hg)
  obtain rfl := Option.some.inj (ht0.symm.trans ht)
  have hc : Tryd.prog.cellsOf 65 = 3 := by kernel_rfl
  have hl : cs.toList.length = 24 := by
    cases fuel with
    | zero => simp [DataW.trod] at hd
    | succ fuel =>
      simp only [DataW.trod, Tryd.underlying97] at hd
      split at hd
      · rename_i hl
        have hc8 : Tryd.prog.cellsOf 97 = 24 := by kernel_rfl
        exact hl.trans hc8
      · cases hd
  have key := fun i hi => elem_at Tryd.underlying97 hd i hi
  rw [hc] at key
  obtain ⟨l, hll⟩ : ∃ l, l = cs.toList := ⟨_, rfl⟩
  rw [← hll] at hl key
  have e0 := key 0 (by decide)
  have e1 := key 1 (by decide)
  have e2 := key 2 (by decide)
  have e3 := key 3 (by decide)
  have e4 := key 4 (by decide)
  have e5 := key 5 (by decide)
  have e6 := key 6 (by decide)
  have e7 := key 7 (by decide)
  clear key hd
  obtain ⟨_, d, q0, hd, e0⟩ := e0
  cases hd
  have e0 := elem_of e0
  obtain ⟨_, d, q1, hd, e1⟩ := e1
  cases hd
  have e1 := elem_of e1
  obtain ⟨_, d, q2, hd, e2⟩ := e2
  cases hd
  have e2 := elem_of e2
  obtain ⟨_, d, q3, hd, e3⟩ := e3
  cases hd
  have e3 := elem_of e3
  obtain ⟨_, d, q4, hd, e4⟩ := e4
  cases hd
  have e4 := elem_of e4
  obtain ⟨_, d, q5, hd, e5⟩ := e5
  cases hd
  have e5 := elem_of e5
  obtain ⟨_, d, q6, hd, e6⟩ := e6
  cases hd
  have e6 := elem_of e6
  obtain ⟨_, d, q7, hd, e7⟩ := e7
  cases hd
  have e7 := elem_of e7
  have hcs : l = tabV.toList := by
    match l, hl with
    | [a0, a1, a2, a3, a4, a5, a6, a7, a8, a9, a10, a11, a12, a13, a14, a15, a16, a17, a18, a19, a20, a21, a22, a23], _ =>
      simp at e0 e1 e2 e3 e4 e5 e6 e7
      simp [tabV, e0, e1, e2, e3, e4, e5, e6, e7]
  have hcs2 : cs = tabV := by
    rw [hll] at hcs
    exact Array.toList_inj.1 hcs
  unfold World.var? at hvar
  rw [hg0] at hvar
  simp only [Option.bind_some] at hvar
  cases hb : W.heap[0]? with
  | none => rw [hb] at hvar; cases hvar
  | some o =>
    rw [hb] at hvar
    cases o with
    | cells c t z =>
      simp at hvar
      exact ⟨t, z, by rw [hb, hvar, hcs2]⟩
    | _ => cases hvar
end Go.Proofs.YtmmgebiojpnhcaaDoor.Cmd
