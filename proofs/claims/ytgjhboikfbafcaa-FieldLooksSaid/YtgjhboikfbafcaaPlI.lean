/-
  Contract of Rows of package plane.
-/
import Derived.Test.YtgjhboikfbafcaaPlH
namespace Go.Proofs.Ytgjhboikfbafcaa.Pl
open Go.RowKit Go.Shelf Base
set_option linter.unusedVariables false
set_option linter.unusedSimpArgs false

theorem info_str : (Try.prog.info? 9).map (fun i => (i.zero, i.size, i.bytes)) = some (some (.string ByteArray.empty), 1, 16) := by kernel_rfl
def strV (l : List UInt8) : Value := .string ⟨l.toArray⟩
/-- The first k rows as texts. -/
def rowsL (page : Int) (L : List Cl) (c : Int) (k : Nat) : List Value := (List.range k).map fun i : Nat => strV (textL page L ((i : Int) * c) c)
theorem rowsL_length (page : Int) (L : List Cl) (c : Int) (k : Nat) : (rowsL page L c k).length = k := by simp [rowsL]
theorem rowsL_succ (page : Int) (L : List Cl) (c : Int) (k : Nat) : rowsL page L c (k + 1) = rowsL page L c k ++ [strV (textL page L ((k : Int) * c) c)] := by simp [rowsL, List.range_succ]
theorem own_shape {W : World} {base : Nat} {e : TypeId} {k n : Nat} {v : Value} {xs : List Value} (h : W.ownsRow base e k v n xs) : ∃ a cap, v = .slice a n cap := by
  rcases h.2 with ⟨rfl, h0⟩ | ⟨g, cap, cur, rfl, _⟩
  · exact ⟨none, 0, by rw [h0]⟩
  · exact ⟨_, cap, rfl⟩
theorem own_below {W W' : World} {base : Nat} {e : TypeId} {k n : Nat} {v : Value} {xs : List Value} (h : W.ownsRow base e k v n xs) (t : Below W.heap.size W W') : W'.ownsRow base e k v n xs :=
  h.kept (row := none) (grown_of_below t) (by
    rcases h.2 with ⟨rfl, _⟩ | ⟨g, cap, cur, rfl, _⟩
    · exact .inl rfl
    · exact .inr (by simp [Value.ownBlock]))
theorem own_not {W : World} {base : Nat} {e t : TypeId} {k n q : Nat} {v : Value} {xs : List Value} {cs : Array Value} (h : W.ownsRow base e k v n xs) (hq : W.heap[q]? = some (.cells cs t (0, 0))) (hte : t ≠ e) : v.ownBlock ≠ some q := by
  intro e'
  rcases h.2 with ⟨rfl, _⟩ | ⟨g, cap, cur, rfl, _, hg, _⟩
  · simp [Value.ownBlock] at e'
  · simp [Value.ownBlock] at e'
    subst e'
    rw [hq] at hg; cases hg; exact hte rfl
/-- What the loop of Rows knows. -/
def RwRel (w W0 : World) (q R : Nat) (c page : Int) (L : List Cl) (v p : Value) (wr : World) : Prop :=
  ∃ k : Nat, k ≤ R ∧ p = .int .i64 k ∧ wr.ownsRow (w.heap.size + 1) 9 1 v k (rowsL page L c k) ∧ Below w.heap.size w wr ∧ wr.heap[q]? = some (.cells #[.int .i64 (R : Int), .int .i64 c] 23 (0, 0))
end Go.Proofs.Ytgjhboikfbafcaa.Pl
