/-
  The walk of AddrPlaces: it returns true whatever comes, and leaves all that was in memory as it was.
-/
import Derived.Test.YtpmcpllcfmgpgaaAddrDigitsWalk
import Derived.Test.YtpmcpllcfmgpgaaAddrBytesWalk
import Derived.Deep.RegionHeld3
namespace Go.Proofs.Ytpmcpllcfmgpgaa
open Go.RowKit
set_option linter.unusedVariables false

/-- What the last line of AddrPlaces needs of the world: the size in its box, and both rows. -/
def PS (b0 : Nat) (r c : Int) (v1 v2 : Value) (L1 L2 : List Int) (W0 W : World) : Prop :=
  Hid (RowOf .i64 W v1 L1 ∧ RowOf .i64 W v2 L2 ∧ Below W0.heap.size W0 W)
theorem PS.drew {b0 : Nat} {r c : Int} {v1 v2 : Value} {L1 L2 : List Int} {W0 W : World} (h : PS b0 r c v1 v2 L1 L2 W0 W) : PS b0 r c v1 v2 L1 L2 W0 W.drew :=
  ⟨h.1.kept fun _ _ _ hx => hx, h.2.1.kept fun _ _ _ hx => hx, h.2.2.drew⟩
theorem move_ps (b0 : Nat) (r c a b n : Int) (v1 v2 : Value) (L1 L2 : List Int) (W0 W : World) (hn : Hid (cells r c = n)) (n0 : 0 ≤ n) (n1 : n ≤ 4096)
    (h : W.cell? ⟨b0, 0, none⟩ = some (.int .i64 r) ∧ W.cell? ⟨b0, 1, none⟩ = some (.int .i64 c) ∧ PS b0 r c v1 v2 L1 L2 W0 W) :
    Calls Try.prog 47 #[.agg #[.int .i64 r, .int .i64 c], .int .i64 a, .int .i64 b] W fun e w' => e = .returned (.int .i64 (mv n a b)) ∧ (w'.cell? ⟨b0, 0, none⟩ = some (.int .i64 r) ∧ w'.cell? ⟨b0, 1, none⟩ = some (.int .i64 c) ∧ PS b0 r c v1 v2 L1 L2 W0 w') := by
  obtain ⟨h0, h1, h2, h3, h4⟩ := h
  exact (move_any r c a b n W hn n0 n1).mono fun _ _ ⟨he, hb⟩ => ⟨he, cell_later hb h0, cell_later hb h1, h2.below hb, h3.below hb, h4.trans (hb.mono h4.size)⟩
theorem rmove_ps (b0 : Nat) (r c a b n : Int) (v1 v2 : Value) (L1 L2 : List Int) (W0 W : World) (hn : Hid (cells r c = n)) (n0 : 0 ≤ n) (n1 : n ≤ 4096)
    (h : W.cell? ⟨b0, 0, none⟩ = some (.int .i64 r) ∧ W.cell? ⟨b0, 1, none⟩ = some (.int .i64 c) ∧ PS b0 r c v1 v2 L1 L2 W0 W) :
    Calls Try.prog 48 #[.agg #[.int .i64 r, .int .i64 c], .int .i64 a, .int .i64 b] W fun e w' => e = .returned (.int .i64 (mv n a b)) ∧ (w'.cell? ⟨b0, 0, none⟩ = some (.int .i64 r) ∧ w'.cell? ⟨b0, 1, none⟩ = some (.int .i64 c) ∧ PS b0 r c v1 v2 L1 L2 W0 w') := by
  obtain ⟨h0, h1, h2, h3, h4⟩ := h
  exact (rmove_any r c a b n W hn n0 n1).mono fun _ _ ⟨he, hb⟩ => ⟨he, cell_later hb h0, cell_later hb h1, h2.below hb, h3.below hb, h4.trans (hb.mono h4.size)⟩
theorem RowOf.drewN {k : IntKind} {w : World} {v : Value} {L : List Int} (h : RowOf k w v L) (n : Nat) : RowOf k (w.drewN n) v L := h.kept fun _ _ _ hx => hx
theorem same_ps (b0 : Nat) (r c : Int) (v1 v2 : Value) (L : List Int) (W0 W : World) (hm : L.length ≤ maxLen)
    (h : W.cell? ⟨b0, 0, none⟩ = some (.int .i64 r) ∧ W.cell? ⟨b0, 1, none⟩ = some (.int .i64 c) ∧ PS b0 r c v1 v2 L L W0 W) :
    Calls Try.prog 49 #[v1, v2] W fun e w' => e = .returned (.bool true) ∧ (w'.cell? ⟨b0, 0, none⟩ = some (.int .i64 r) ∧ w'.cell? ⟨b0, 1, none⟩ = some (.int .i64 c) ∧ PS b0 r c v1 v2 L L W0 w') := by
  obtain ⟨h0, h1, h2, h3, h4⟩ := h
  exact (to_bool (y := true) (sameInts_any v1 v2 L L W h2 h3 hm) (by simp)).mono fun _ _ ⟨he, n, hb⟩ => ⟨he, by subst hb; exact ⟨h0, h1, h2.drewN n, h3.drewN n, below_drewN h4 n⟩⟩

/-- A first part of a row. -/
theorem RowOf.head {k : IntKind} {w : World} {g cap : Nat} {L : List Int} (h : RowOf k w (.slice (some ⟨g, 0, none⟩) L.length cap) L) (m : Nat) (hm : m ≤ L.length) : RowOf k w (.slice (some ⟨g, 0, none⟩) m cap) (L.take m) := by
  obtain ⟨a, cap', he, hr⟩ := h
  cases he
  have hl : (L.take m).length = m := by rw [List.length_take]; omega
  refine ⟨_, cap, by rw [hl], fun hne => ?_⟩
  obtain ⟨b, off, hb, hc⟩ := hr (fun e => hne (by rw [e]; simp))
  refine ⟨b, off, hb, fun i hi => ?_⟩
  rw [hl] at hi
  rw [hc i (by omega), List.getElem?_take, if_pos hi]

theorem list_is (r c a b n : Int) (q : Int) (hq : 1 ≤ q) (hq2 : q ≤ 5000) (w : World) (hn : Hid (cells r c = n)) :
    Calls Try.prog 46 #[.agg #[.int .i64 r, .int .i64 c], .int .i64 a, .int .i64 b, .int .i64 q] w fun e W' =>
      ∃ v, e = .returned v ∧ W'.ownsRow w.heap.size 3 1 v ((betw n a b).take q.toNat).length (((betw n a b).take q.toNat).map (Value.int .i64)) ∧ Below w.heap.size w W' := by
  obtain ⟨k, rfl⟩ : ∃ k : Nat, q = k := ⟨q.toNat, by omega⟩
  exact list_any r c a b n k (by omega) (by omega) w hn

theorem owns_cap {w : World} {base : Nat} {e : TypeId} {g n cap : Nat} {xs : List Value} (h : w.ownsRow base e 1 (.slice (some ⟨g, 0, none⟩) n cap) n xs) : n ≤ cap := by
  rcases h.2 with ⟨h0, _⟩ | ⟨g', cap', cur, h0, _, _, h1, _⟩
  · cases h0
  · cases h0; exact h1


end Go.Proofs.Ytpmcpllcfmgpgaa
