/-
  What the law of clones holds.
-/
import Derived.Test.YtkkcdahfiegopaaDoorPlQ
namespace Go.Proofs.YtkkcdahfiegopaaDoor.Pl
open Go.RowKit Go.Shelf Base
set_option linter.unusedVariables false
set_option linter.unusedSimpArgs false

/-- A step of the laws. -/
structure Pop where
  k : Int
  i : Int
  z : Int
  x : Cl
/-- A row of steps in memory. -/
def OpsP (w : World) (v : Value) (L : List Pop) : Prop :=
  ∃ a cap, v = .slice a L.length cap ∧ (L ≠ [] → ∃ g off, a = some ⟨g, off, none⟩ ∧ g < w.heap.size ∧ ∀ (i : Nat) (o : Pop), L[i]? = some o →
    w.cell? ⟨g, off + i * 8, none⟩ = some (.int .i64 o.k) ∧ w.cell? ⟨g, off + i * 8 + 1, none⟩ = some (.int .i64 o.i) ∧ w.cell? ⟨g, off + i * 8 + 2, none⟩ = some (.int .i64 o.z) ∧
    w.cell? ⟨g, off + i * 8 + 3, none⟩ = some (.int .u8 o.x.b) ∧ w.cell? ⟨g, off + i * 8 + 4, none⟩ = some (.bool o.x.ge) ∧ w.cell? ⟨g, off + i * 8 + 5, none⟩ = some (.bool o.x.st) ∧ w.cell? ⟨g, off + i * 8 + 6, none⟩ = some (.int .u8 o.x.li) ∧ w.cell? ⟨g, off + i * 8 + 7, none⟩ = some (.int .u8 o.x.co))
theorem OpsP.below {w W : World} {v : Value} {L : List Pop} (h : OpsP w v L) (t : Below w.heap.size w W) : OpsP W v L := by
  obtain ⟨a, cap, rfl, h⟩ := h
  refine ⟨a, cap, rfl, fun hne => ?_⟩
  obtain ⟨g, off, rfl, hg, hc⟩ := h hne
  exact ⟨g, off, rfl, Nat.lt_of_lt_of_le hg t.size, fun i x hx => by
    obtain ⟨a0, a1, a2, a3, a4, a5, a6, a7⟩ := hc i x hx
    exact ⟨cell_later t a0, cell_later t a1, cell_later t a2, cell_later t a3, cell_later t a4, cell_later t a5, cell_later t a6, cell_later t a7⟩⟩
theorem run_eql_cl (w : World) (x y : Cl) : (binOp .eql 36 x.val y.val).run Tryd.prog w = .ok (.bool (decide (x = y))) w := by
  obtain ⟨b, ge, st, li, co⟩ := x
  obtain ⟨b', ge', st', li', co'⟩ := y
  have e : (binOp .eql 36 (Cl.val ⟨b, ge, st, li, co⟩) (Cl.val ⟨b', ge', st', li', co'⟩)).run Tryd.prog w = .ok (.bool ((b == b') && ((ge == ge') && ((st == st') && ((li == li') && (co == co')))))) w := by
    cases h1 : (b == b') with
    | false => simp [go_sem, h1]
    | true =>
      cases h2 : (ge == ge') with
      | false => simp [go_sem, h1, h2]
      | true =>
        cases h3 : (st == st') with
        | false => simp [go_sem, h1, h2, h3]
        | true =>
          cases h4 : (li == li') with
          | false => simp [go_sem, h1, h2, h3, h4]
          | true =>
            cases h5 : (co == co') with
            | false => simp [go_sem, h1, h2, h3, h4, h5]
            | true => simp [go_sem, h1, h2, h3, h4, h5]
  have h : (decide ((⟨b, ge, st, li, co⟩ : Cl) = ⟨b', ge', st', li', co'⟩)) = ((b == b') && ((ge == ge') && ((st == st') && ((li == li') && (co == co'))))) := by
    rw [Bool.eq_iff_iff]
    simp
  exact e.trans (by rw [h])
theorem setL_same (L : List Cl) (i : Int) (x : Cl) (h0 : 0 ≤ i) (h1 : i < L.length) : setL L i x = L ↔ atL L i = x := by
  constructor
  · intro h
    have := atL_setL L i i x ⟨h0, h1⟩
    rw [h, if_pos rfl] at this
    exact this
  · intro h
    unfold setL
    rw [if_pos ⟨h0, h1⟩]
    unfold atL at h
    rw [if_pos ⟨h0, h1⟩] at h
    apply List.ext_getElem?
    intro j
    rw [List.getElem?_set]
    by_cases hj : i.toNat = j
    · subst hj
      rw [if_pos rfl, if_pos (by omega), ← h, List.getElem?_eq_getElem (by omega)]
      rfl
    · rw [if_neg hj]
/-- What a round of the law holds: its step, the cell ahead of the turn, two planes. -/
structure RQ (s : Nat) (w : World) (o f : Nat) (op : Pop) (y : Cl) (r c at_ cur : Int) (b g b2 g2 : Nat) (M L : List Cl) (W : World) : Prop where
  ob : W.heap[o]? = some (.cells #[.int .i64 op.k, .int .i64 op.i, .int .i64 op.z, .int .u8 op.x.b, .bool op.x.ge, .bool op.x.st, .int .u8 op.x.li, .int .u8 op.x.co] 38 (0, 0))
  fb : W.heap[f]? = some (.cells #[.int .u8 y.b, .bool y.ge, .bool y.st, .int .u8 y.li, .int .u8 y.co] 36 (0, 0))
  p : PlAt W b g r c at_ M
  q : PlAt W b2 g2 r c cur L
  old : Below s w W
  low : s ≤ W.heap.size
section
variable {s : Nat} {w W W' : World} {o f : Nat} {op : Pop} {y : Cl} {r c at_ cur : Int} {b g b2 g2 : Nat} {M L : List Cl}
theorem RQ.below (h : RQ s w o f op y r c at_ cur b g b2 g2 M L W) (t : Below W.heap.size W W') : RQ s w o f op y r c at_ cur b g b2 g2 M L W' :=
  ⟨(t.block _ (lt_of_block h.ob)).trans h.ob, (t.block _ (lt_of_block h.fb)).trans h.fb, h.p.below t, h.q.below t, h.old.trans (t.mono h.low), Nat.le_trans h.low t.size⟩
theorem RQ.drew (h : RQ s w o f op y r c at_ cur b g b2 g2 M L W) : RQ s w o f op y r c at_ cur b g b2 g2 M L W.drew := ⟨h.ob, h.fb, h.p.drew, h.q.drew, below_drew h.old, h.low⟩
theorem blk8 {x0 x1 x2 x3 x4 x5 x6 x7 : Value} {t : TypeId} (h : W.heap[b]? = some (.cells #[x0, x1, x2, x3, x4, x5, x6, x7] t (0, 0))) :
    W.cell? ⟨b, 0, none⟩ = some x0 ∧ W.cell? ⟨b, 1, none⟩ = some x1 ∧ W.cell? ⟨b, 2, none⟩ = some x2 ∧ W.cell? ⟨b, 3, none⟩ = some x3 ∧ W.cell? ⟨b, 4, none⟩ = some x4 ∧ W.cell? ⟨b, 5, none⟩ = some x5 ∧ W.cell? ⟨b, 6, none⟩ = some x6 ∧ W.cell? ⟨b, 7, none⟩ = some x7 :=
  ⟨by simp [World.cell?, h], by simp [World.cell?, h], by simp [World.cell?, h], by simp [World.cell?, h], by simp [World.cell?, h], by simp [World.cell?, h], by simp [World.cell?, h], by simp [World.cell?, h]⟩
theorem RQ.s10 (h : RQ s w o f op y r c at_ cur b g b2 g2 M L W) :
    W.cell? ⟨o, 3, none⟩ = some (.int .u8 op.x.b) ∧ W.cell? ⟨o, 4, none⟩ = some (.bool op.x.ge) ∧ W.cell? ⟨o, 5, none⟩ = some (.bool op.x.st) ∧ W.cell? ⟨o, 6, none⟩ = some (.int .u8 op.x.li) ∧ W.cell? ⟨o, 7, none⟩ = some (.int .u8 op.x.co) ∧
    W.cell? ⟨f, 0, none⟩ = some (.int .u8 y.b) ∧ W.cell? ⟨f, 1, none⟩ = some (.bool y.ge) ∧ W.cell? ⟨f, 2, none⟩ = some (.bool y.st) ∧ W.cell? ⟨f, 3, none⟩ = some (.int .u8 y.li) ∧ W.cell? ⟨f, 4, none⟩ = some (.int .u8 y.co) ∧ RQ s w o f op y r c at_ cur b g b2 g2 M L W := by
  obtain ⟨_, _, _, a3, a4, a5, a6, a7⟩ := blk8 h.ob
  obtain ⟨y0, y1, y2, y3, y4⟩ := cell5 h.fb
  exact ⟨a3, a4, a5, a6, a7, y0, y1, y2, y3, y4, h⟩
end
end Go.Proofs.YtkkcdahfiegopaaDoor.Pl
