/-
  Bytes in sixteens.
-/
import Derived.Test.YtjeknociobbhpaaDoorOrdZB
import Derived.Test.YtjeknociobbhpaaDoorMarkA
namespace Go.Proofs.YtjeknociobbhpaaDoor.Ord
open Go.RowKit Base
set_option linter.unusedVariables false
set_option linter.unusedSimpArgs false

def hexd (q : Int) : Int := if q < 10 then 48 + q else 87 + q
def hexL (X : List Int) : List Int := X.flatMap fun b => [hexd (b / 16), hexd (b % 16)]
theorem hexL_len (X : List Int) : (hexL X).length = X.length * 2 := by
  induction X with
  | nil => rfl
  | cons p ps ih =>
    show ([_, _] ++ hexL ps).length = _
    rw [List.length_append, ih]
    simp
    omega
theorem hexL_take (X : List Int) (j : Nat) (x : Int) (h : X[j]? = some x) : hexL (X.take (j + 1)) = hexL (X.take j) ++ [hexd (x / 16), hexd (x % 16)] := by
  unfold hexL
  rw [List.take_add_one, h]
  simp
theorem hexL_take_le (X : List Int) (j : Nat) : (hexL (X.take j)).length ≤ X.length * 2 := by
  rw [hexL_len, List.length_take]
  omega
def hexT : ByteArray := ⟨#[48, 49, 50, 51, 52, 53, 54, 55, 56, 57, 97, 98, 99, 100, 101, 102]⟩
theorem hex_at (q : Int) (h0 : 0 ≤ q) (h1 : q < 16) (h : q.toNat < hexT.size) : ((hexT[q.toNat]'h).toNat : Int) = hexd q := by
  rcases (by omega : q = 0 ∨ q = 1 ∨ q = 2 ∨ q = 3 ∨ q = 4 ∨ q = 5 ∨ q = 6 ∨ q = 7 ∨ q = 8 ∨ q = 9 ∨ q = 10 ∨ q = 11 ∨ q = 12 ∨ q = 13 ∨ q = 14 ∨ q = 15) with rfl | rfl | rfl | rfl | rfl | rfl | rfl | rfl | rfl | rfl | rfl | rfl | rfl | rfl | rfl | rfl <;> rfl
/-- All blocks stand but those of bytes. -/
def Kept (w w' : World) : Prop := ∀ (k : Nat) (cs : Array Value) (t : TypeId) (fz : Nat × Nat), t ≠ 5 → w.heap[k]? = some (.cells cs t fz) → w'.heap[k]? = w.heap[k]?
theorem Kept.refl (w : World) : Kept w w := fun _ _ _ _ _ _ => rfl
theorem Kept.trans {a b c : World} (h : Kept a b) (k : Kept b c) : Kept a c := fun i cs t fz ht e => (k i cs t fz ht ((h i cs t fz ht e).trans e)).trans (h i cs t fz ht e)
theorem Kept.of_below {a b : World} (h : Below a.heap.size a b) : Kept a b := fun i cs t fz _ e => h.block i (lt_of_block e)
theorem Kept.of_grown {s : Nat} {w w' : World} {v : Value} {L : List Int} (h : OwnM s w v L) (hg : w.grownBy w' v.ownBlock) : Kept w w' := fun i cs t fz ht e => hg.block i (lt_of_block e) fun ee => by
  obtain ⟨c, fz', h1⟩ := h.kind i ee.symm
  rw [h1] at e
  injection e with e
  injection e with _ e
  exact ht e.symm
theorem Kept.box {w w' : World} (h : Kept w w') {k : Nat} {cs : Array Value} {t : TypeId} (ht : t ≠ 5) (e : w.heap[k]? = some (.cells cs t (0, 0))) : w'.heap[k]? = some (.cells cs t (0, 0)) := (h k cs t _ ht e).trans e
structure SQ (s : Nat) (w0 w : World) (vb : Value) (X L : List Int) (j : Nat) (v : Value) (wr : World) : Prop where
  own : OwnM s wr v (L ++ hexL (X.take j))
  src : RowIn (fun k => k < s) .u8 wr vb X ∨ (RowOf .u8 wr vb X ∧ X.length ≤ 1) ∧ j = 0 ∨ X.length ≤ j
  old : Below s w0 wr
  size : s ≤ wr.heap.size
  kept : Kept w wr
theorem SQ.row {s : Nat} {w0 w wr : World} {vb v : Value} {X L : List Int} {j : Nat} (h : SQ s w0 w vb X L j v wr) (hj : j < X.length) : RowOf .u8 wr vb X := by
  rcases h.src with h | ⟨h, _⟩ | h
  · exact h.row
  · exact h.1
  · omega
theorem SQ.next {s : Nat} {w0 w wr w' : World} {vb v v' : Value} {X L : List Int} {j : Nat} {x : Int} {o : Obj} (h : SQ s w0 w vb X L j v wr) (hx : X[j]? = some x) (hown : OwnM s w' v' (L ++ hexL (X.take j) ++ [hexd (x / 16), hexd (x % 16)])) (hg : (wr.alloc o).drew.grownBy w' v.ownBlock) : SQ s w0 w vb X L (j + 1) v' w' := by
  have hjl := (List.getElem?_eq_some_iff.1 hx).1
  have hb : Below s wr w' := (((Below.refl s wr).alloc h.size o).drew).grown hg (by have := h.size; simp; omega) (fun r e => h.own.first r e)
  refine ⟨by rw [hexL_take X j x hx, ← List.append_assoc]; exact hown, ?_, h.old.trans hb, Nat.le_trans h.size hb.size, h.kept.trans ((Kept.of_below (((Below.refl _ wr).alloc (Nat.le_refl _) o).drew)).trans (Kept.of_grown ((h.own.below (below_alloc _ _)).below (Below.refl _ _).drew) hg))⟩
  rcases h.src with h2 | ⟨⟨_, h3⟩, rfl⟩ | h2
  · left
    obtain ⟨a, c, rfl, hr⟩ := h2
    refine ⟨a, c, rfl, fun hne => ?_⟩
    obtain ⟨g, off, rfl, hg1, hl, hi⟩ := hr hne
    exact ⟨g, off, rfl, hg1, Nat.lt_of_lt_of_le hl hb.size, fun i h => (cell_block (hb.block g hg1) _).trans (hi i h)⟩
  · right; right; omega
  · omega
set_option maxRecDepth 100000 in
set_option maxHeartbeats 4000000 in
theorem sixteens_any {s : Nat} {w0 w : World} {v vb : Value} {L X : List Int} (hv : OwnM s w v L) (h0 : Below s w0 w) (hs : s ≤ w.heap.size) (hr : RowIn (fun k => k < s) .u8 w vb X ∨ (RowOf .u8 w vb X ∧ X.length ≤ 1)) (hX : ∀ x ∈ X, 0 ≤ x ∧ x < 256) (hm : L.length + X.length * 2 ≤ 5000000) :
    Calls Tryd.prog 33 #[v, vb] w fun e w' => ∃ u, e = .returned u ∧ OwnM s w' u (L ++ hexL X) ∧ Below s w0 w' ∧ Kept w w' := by
  have h1 : SQ s w0 w vb X L 0 v w := ⟨by simpa [hexL] using hv, hr.elim .inl (fun h => .inr (.inl ⟨h, rfl⟩)), h0, hs, Kept.refl w⟩
  have HQ := Lib.hid h1
  obtain ⟨ba, bc, rfl⟩ : ∃ a c, vb = .slice a X.length c := by
    rcases hr with ⟨a, c, e, _⟩ | ⟨⟨a, c, e, _⟩, _⟩ <;> exact ⟨a, c, e⟩
  have HX := Lib.hid hX
  obtain ⟨n, hn⟩ : ∃ n, n = X.length := ⟨_, rfl⟩
  rw [← hn] at HQ hm ⊢
  have HN := Lib.hid hn
  have HM := Lib.hid hm
  have hn1 : n ≤ 2500000 := by omega
  clear hv h0 hs hr h1 hX hn hm
  go_enter Tryd.func33, Tryd.ntmps33
  go_upto_region 2 with fail
  go_loopw [0, 9] (fun v i wr => ∃ j : Nat, j ≤ n ∧ i = .int .i64 j ∧ SQ s w0 w (.slice ba n bc) X L j v wr) (fun _ i _ => n - (intOf i).toNat)
  case atStart => exact ⟨0, by omega, rfl, HQ.out⟩
  case round =>
    obtain ⟨j, hj, rfl, hq⟩ := hrel
    by_cases hjn : j < n
    · have hjni : (j : Int) < (n : Int) := by omega
      have hj0 : (0 : Int) ≤ (j : Int) := Int.natCast_nonneg _
      obtain ⟨x, hxx⟩ : ∃ x, X[j]? = some x := ⟨_, List.getElem?_eq_getElem (by rw [← HN.out]; exact hjn)⟩
      obtain ⟨x0, x1⟩ := HX.out x (List.mem_of_getElem? hxx)
      obtain ⟨_, _, e, hc⟩ := hq.row (by rw [← HN.out]; exact hjn)
      injection e with e1 e2 e3
      clear e2
      subst e1 e3
      obtain ⟨gg, off, rfl, hcc⟩ := hc (by intro e; rw [e] at hxx; simp at hxx)
      have hd := hcc j (by rw [← HN.out]; exact hjn)
      rw [hxx] at hd
      simp only [Option.getD_some] at hd
      have HQJ := Lib.hid hq
      have w1 : IntKind.u8.wrap (x.tdiv 16) = x / 16 := by rw [Int.tdiv_eq_ediv_of_nonneg x0]; exact IntWalk.u8_in _ (by omega)
      have w2 : x.tmod 16 = x % 16 := Int.tmod_eq_emod_of_nonneg x0
      have y1 := hex_at (x / 16) (by omega) (by omega)
      have y2 := hex_at (x % 16) (by omega) (by omega)
      have z1 : 0 ≤ x / 16 ∧ x / 16 < 16 := by omega
      have z2 : 0 ≤ x % 16 ∧ x % 16 < 16 := by omega
      have HXX : Hid (∃ q1 q2, q1 = x / 16 ∧ q2 = x % 16 ∧ X[j]? = some x) := Lib.hid ⟨_, _, rfl, rfl, hxx⟩
      obtain ⟨q1, hq1⟩ : ∃ q1, q1 = x / 16 := ⟨_, rfl⟩
      obtain ⟨q2, hq2⟩ : ∃ q2, q2 = x % 16 := ⟨_, rfl⟩
      rw [← hq1] at w1 y1 z1
      rw [← hq2] at w2 y2 z2
      obtain ⟨z10, z11⟩ := z1
      obtain ⟨z20, z21⟩ := z2
      unfold hexT at y1 y2
      have HXX : Hid (q1 = x / 16 ∧ q2 = x % 16 ∧ X[j]? = some x) := Lib.hid ⟨hq1, hq2, hxx⟩
      obtain ⟨e1, he1⟩ : ∃ e, e = hexd q1 := ⟨_, rfl⟩
      obtain ⟨e2, he2⟩ : ∃ e, e = hexd q2 := ⟨_, rfl⟩
      rw [← he1] at y1
      rw [← he2] at y2
      have HE := Lib.hid (And.intro he1 he2)
      clear hq1 hq2 he1 he2
      have ht : (X.take j).length = j := by rw [List.length_take]; have := HN.out; omega
      have HT := Lib.hid ht
      clear hxx hc hcc hq ht HX
      go_upto_region 4 with fail
      go_region_law (refine step_append_m (by rfl) _ _ (by rfl) ((HQJ.out.own.below (below_alloc _ _)).below (Below.refl _ _).drew) (row_two8 _ _ _ _) ⟨_, _, _, rfl⟩ (by rfl) (by rfl) (by have := HM.out; have := HT.out; simp [hexL_len]; omega) (by have := HQJ.out.size; simp; omega) ?_; intro v9 W9 hown hg)
      all_goals
        have HQ9 := Lib.hid (HQJ.out.next HXX.out.2.2 (by rw [← HXX.out.1, ← HXX.out.2.1, ← HE.out.1, ← HE.out.2]; exact hown) hg)
        clear hown hg
        go_wp2_with fail
        go_roundw
        case rel => exact ⟨j + 1, by omega, by go_num, HQ9.out⟩
        case measure => simp [intOf]; omega
    · obtain rfl : n = j := by omega
      have hown := hq.own
      rw [List.take_of_length_le (by rw [← HN.out]; exact Nat.le_refl _)] at hown
      have HOW := Lib.hid hown
      have HOL := Lib.hid (And.intro hq.old hq.kept)
      clear hown hq
      go_wp2_with fail
      go_ret
      exact ⟨_, rfl, HOW.out, HOL.out⟩
end Go.Proofs.YtjeknociobbhpaaDoor.Ord
