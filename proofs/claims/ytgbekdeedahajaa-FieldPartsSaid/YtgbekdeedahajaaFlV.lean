/-
  A map of fields by the places of their cells.
-/
import Derived.Test.YtgbekdeedahajaaFlU
import Derived.Test.YtgbekdeedahajaaFieldWalksWalk
import Derived.Maps.OwnOps
import Derived.Maps.OwnSet
namespace Go.Proofs.Ytgbekdeedahajaa.Pl
open Go.RowKit Go.Shelf Go.Maps Base
set_option linter.unusedVariables false
set_option linter.unusedSimpArgs false

abbrev FD := DataW Unit
def fdD (f : Fd) : FD := .agg [.lit (.int .i64 f.s), .lit (.int .i64 f.k), .lit (.int .u8 f.a)]
/-- How a field reads. -/
def fdR : Value → Option (FD × List MemPlace)
  | .agg cs => match cs.toList with
    | [.int .i64 s, .int .i64 k, .int .u8 a] => some (fdD ⟨s, k, a⟩, [])
    | _ => none
  | _ => none
theorem fdR_mk (f : Fd) : fdR f.val = some (fdD f, []) := rfl
theorem fdD_inj {f g : Fd} (h : fdD f = fdD g) : f = g := by
  obtain ⟨a, b, c⟩ := f
  obtain ⟨d, e, i⟩ := g
  simp [fdD] at h
  simp [h]
theorem fdR_inv {v : Value} {d : FD} {ps : List MemPlace} (h : fdR v = some (d, ps)) : ∃ f : Fd, v = f.val ∧ d = fdD f := by
  unfold fdR at h
  split at h
  · next cs =>
    split at h
    · next s k a hc =>
      injection h with h
      injection h with h1 h2
      refine ⟨⟨s, k, a⟩, ?_, h1.symm⟩
      have : cs = #[.int .i64 s, .int .i64 k, .int .u8 a] := by
        apply Array.ext'
        rw [hc]
      rw [this]
    · cases h
  · cases h
def putA (D : FD) (S : List (Int × Fd)) : FD := S.foldl (fun D p => D.put (.int .i64 p.1) (fdD p.2)) D
theorem putA_snoc (D : FD) (S : List (Int × Fd)) (p : Int × Fd) : putA D (S ++ [p]) = (putA D S).put (.int .i64 p.1) (fdD p.2) := by simp [putA, List.foldl_append]
theorem lit_ne' {a b : Int} (h : a ≠ b) : (Lit.int .i64 a) ≠ .int .i64 b := fun e => h (Lit.int.inj e).2
theorem putA_at {φ : Int → Fd} {y : Int} (z : FD) : ∀ (S : List (Int × Fd)) (D : FD), Tidy D → (∀ p ∈ S, p.2 = φ p.1) → ((∃ f, (y, f) ∈ S) ∨ (D.atKey (.int .i64 y) z = fdD (φ y) ∧ Maps.has D (.int .i64 y) = true)) →
    (putA D S).atKey (.int .i64 y) z = fdD (φ y) ∧ Maps.has (putA D S) (.int .i64 y) = true
  | [], D, ht, _, h => by
    rcases h with ⟨f, hf⟩ | h
    · cases hf
    · exact h
  | p :: S, D, ht, hφ, h => by
    show (putA (D.put (.int .i64 p.1) (fdD p.2)) S).atKey _ z = _ ∧ _
    refine putA_at z S _ (Tidy.put (k := .int .i64 p.1) ht trivial _) (fun q hq => hφ q (List.mem_cons_of_mem _ hq)) ?_
    by_cases hy : p.1 = y
    · right
      rw [hy]
      refine ⟨?_, has_put_same (k := .int .i64 y) ht.isMap trivial _⟩
      rw [atKey_put_same (k := .int .i64 y) ht.isMap trivial, hφ p (by simp), hy]
    · rcases h with ⟨f, hf⟩ | ⟨h1, h2⟩
      · left
        rcases List.mem_cons.1 hf with e | hf
        · exact absurd (by rw [← e]) hy
        · exact ⟨f, hf⟩
      · right
        exact ⟨by rw [atKey_put_other (lit_ne' (Ne.symm hy))]; exact h1, by rw [has_put_other (lit_ne' (Ne.symm hy))]; exact h2⟩
theorem putA_tidy : ∀ (S : List (Int × Fd)) (D : FD), Tidy D → Tidy (putA D S)
  | [], D, h => h
  | p :: S, D, h => putA_tidy S _ (Tidy.put (k := .int .i64 p.1) h trivial _)
theorem putA_size : ∀ (S : List (Int × Fd)) (D : FD), Tidy D → (S.map (·.1)).Nodup → (∀ p ∈ S, Maps.has D (.int .i64 p.1) = false) → Maps.size (putA D S) = Maps.size D + S.length
  | [], D, _, _, _ => rfl
  | p :: S, D, ht, hn, hh => by
    show Maps.size (putA (D.put (.int .i64 p.1) (fdD p.2)) S) = _
    rw [List.map_cons, List.nodup_cons] at hn
    rw [putA_size S _ (Tidy.put (k := .int .i64 p.1) ht trivial _) hn.2 (fun q hq => ?_), size_put ht, hh p (by simp)]
    · simp; omega
    · have hne : q.1 ≠ p.1 := fun e => hn.1 (by rw [← e]; exact List.mem_map_of_mem hq)
      rw [has_put_other (lit_ne' hne)]
      exact hh q (List.mem_cons_of_mem _ hq)
/-- The plane, the row of its fields, the map. -/
structure PtQ (w : World) (b g : Nat) (r c : Int) (L : List Cl) (v : Value) (mb : Nat) (S : List (Int × Fd)) (W : World) : Prop where
  q : WkQ w b g r c L v W
  mp : W.ownsMap Try.prog 3 fdR mb S.length (putA (.map []) S)
  lm : w.heap.size ≤ mb
section
variable {w W W' : World} {b g : Nat} {r c : Int} {L : List Cl} {v : Value} {mb : Nat} {S : List (Int × Fd)}
theorem PtQ.below (h : PtQ w b g r c L v mb S W) (t : Below W.heap.size W W') : PtQ w b g r c L v mb S W' :=
  ⟨h.q.below t, h.mp.kept (grown_of_below t) (by simp), h.lm⟩
theorem map_block {R : Value → Option (FD × List MemPlace)} {n : Nat} {D : FD} (h : W.ownsMap Try.prog 3 R mb n D) : ∃ o : Obj, W.heap[mb]? = some o ∧ o.isCells = false := by
  obtain ⟨es, clock, hb, _⟩ := h
  exact ⟨_, hb, rfl⟩
theorem map_rows {R : Value → Option (FD × List MemPlace)} {n : Nat} {D : FD} (h : W.ownsMap Try.prog 3 R mb n D) : ∀ x, some mb = some x → ∃ o : Obj, W.heap[x]? = some o ∧ o.isCells = false := by
  rintro x e; cases e; exact map_block h
theorem PtQ.put (h : PtQ w b g r c L v mb S W) (hg : W.grownBy W' (some mb)) {k : Int} {f : Fd} (hm : W'.ownsMap Try.prog 3 fdR mb (S.length + 1) ((putA (.map []) S).put (.int .i64 k) (fdD f))) : PtQ w b g r c L v mb (S ++ [(k, f)]) W' := by
  refine ⟨⟨h.q.pl.grown hg (map_rows h.mp), row_grown h.q.row hg (map_rows h.mp), ?_⟩, ?_, h.lm⟩
  · exact ((Turn.of_below (S := fun _ => False) h.q.old).grown hg (fun k e => by cases e; exact .inl h.lm)).below (Nat.le_refl _) (fun k hk => hk.elim)
  · rw [putA_snoc, List.length_append]; exact hm
end
/-- With a field in a block of its own, and the row of its places. -/
structure InQ (w : World) (b g : Nat) (r c : Int) (L : List Cl) (v : Value) (mb : Nat) (F : Nat) (f : Fd) (v2 : Value) (Y : List Int) (S : List (Int × Fd)) (W : World) : Prop where
  p : PtQ w b g r c L v mb S W
  hF : W.heap[F]? = some (.cells #[.int .i64 f.s, .int .i64 f.k, .int .u8 f.a] 39 (0, 0))
  row : W.ownsRow 0 3 1 v2 Y.length (Y.map (Value.int .i64))
theorem InQ.put {w W W' : World} {b g : Nat} {r c : Int} {L : List Cl} {v : Value} {mb : Nat} {F : Nat} {f : Fd} {v2 : Value} {Y : List Int} {S : List (Int × Fd)} (h : InQ w b g r c L v mb F f v2 Y S W) (hg : W.grownBy W' (some mb)) {k : Int} {f2 : Fd}
    (hm : W'.ownsMap Try.prog 3 fdR mb (S.length + 1) ((putA (.map []) S).put (.int .i64 k) (fdD f2))) : InQ w b g r c L v mb F f v2 Y (S ++ [(k, f2)]) W' :=
  ⟨h.p.put hg hm, (cells_kept h.hF hg (map_rows h.p.mp)).trans h.hF, row_grown h.row hg (map_rows h.p.mp)⟩
/-- The parts of some fields. -/
def pK (n : Nat) (X : List Fd) : List (Int × Fd) := X.flatMap fun f => (cellsF n f).map fun y => (y, f)
theorem pK_snoc (n : Nat) (X : List Fd) (f : Fd) : pK n (X ++ [f]) = pK n X ++ ((f.s, f) :: (placesL n f.s f.k).map fun y => (y, f)) := by
  simp [pK, cellsF]
theorem pK_take {n : Nat} {X : List Fd} {i : Nat} {f : Fd} (h : X[i]? = some f) : pK n (X.take (i + 1)) = pK n (X.take i) ++ ((f.s, f) :: (placesL n f.s f.k).map fun y => (y, f)) := by
  obtain ⟨hi, rfl⟩ := List.getElem?_eq_some_iff.1 h
  rw [List.take_succ_eq_append_getElem hi, pK_snoc]
theorem parts_at {L : List Cl} {y : Int} (h0 : 0 ≤ y) (h1 : y < L.length) (hne : allL L ≠ []) (z : FD) : (putA (.map []) (partsL L)).atKey (.int .i64 y) z = fdD (ofF L y) ∧ Maps.has (putA (.map []) (partsL L)) (.int .i64 y) = true :=
  putA_at (φ := ofF L) z _ _ tidy_empty (fun p hp => (mem_parts (y := p.1) (f := p.2) hp).2.2) (.inl ⟨_, in_parts h0 h1 hne⟩)
theorem parts_size (L : List Cl) : Maps.size (putA (.map []) (partsL L)) = (partsL L).length := by
  rw [putA_size _ _ tidy_empty (parts_nodup L) (fun _ _ => rfl)]
  show 0 + _ = _; omega
end Go.Proofs.Ytgbekdeedahajaa.Pl
