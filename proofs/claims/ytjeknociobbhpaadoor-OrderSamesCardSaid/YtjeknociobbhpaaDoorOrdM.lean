/-
  Rows of orders that can be read; are two of them the same?
-/
import Derived.Test.YtjeknociobbhpaaDoorOrdL
namespace Go.Proofs.YtjeknociobbhpaaDoor.Ord
open Go.RowKit Base
set_option linter.unusedVariables false
set_option linter.unusedSimpArgs false

instance : DecidableEq Or := fun a b => decidable_of_iff _ (sameO_eq a b)
/-- The cells of an order. -/
abbrev OC (g f : Nat) (o : Or) (vp vd : Value) (W : World) : Prop := W.cell? ⟨g, f, none⟩ = some (.int .u8 o.kind) ∧ W.cell? ⟨g, f + 1, none⟩ = some (.int .i64 o.addr) ∧ W.cell? ⟨g, f + 2, none⟩ = some (.int .u8 o.byte) ∧ W.cell? ⟨g, f + 3, none⟩ = some (.bool o.ge) ∧ W.cell? ⟨g, f + 4, none⟩ = some vp ∧ W.cell? ⟨g, f + 5, none⟩ = some vd
/-- A row of orders that can be read. -/
def OrdsAt (w : World) (v : Value) (L : List Or) : Prop :=
  ∃ a cap, v = .slice a L.length cap ∧ (L ≠ [] → ∃ g off, a = some ⟨g, off, none⟩ ∧ g < w.heap.size ∧ ∀ i o, L[i]? = some o → ∃ vp vd, OC g (off + i * 6) o vp vd w ∧ PrAt w vp o.pairs ∧ RowOf .u8 w vd o.data)
theorem OC.below {g f : Nat} {o : Or} {vp vd : Value} {w w' : World} (h : OC g f o vp vd w) (t : Below w.heap.size w w') : OC g f o vp vd w' := by
  obtain ⟨h0, h1, h2, h3, h4, h5⟩ := h
  have hl := World.block_lt_of_cell? w ⟨g, f, none⟩ h0
  exact ⟨(cell_block (t.block g hl) _).trans h0, (cell_block (t.block g hl) _).trans h1, (cell_block (t.block g hl) _).trans h2, (cell_block (t.block g hl) _).trans h3, (cell_block (t.block g hl) _).trans h4, (cell_block (t.block g hl) _).trans h5⟩
section
variable {w w' : World} {v u : Value} {L M : List Or}
theorem OrdsAt.below (h : OrdsAt w v L) (t : Below w.heap.size w w') : OrdsAt w' v L := by
  obtain ⟨a, cap, rfl, hr⟩ := h
  refine ⟨a, cap, rfl, fun hne => ?_⟩
  obtain ⟨g, off, rfl, hg, hi⟩ := hr hne
  refine ⟨g, off, rfl, Nat.lt_of_lt_of_le hg t.size, fun i o ho => ?_⟩
  obtain ⟨vp, vd, h1, h2, h3⟩ := hi i o ho
  exact ⟨vp, vd, OC.below h1 t, h2.below t, h3.below t⟩
theorem ordC_get : ∀ (P : List OrdP) (i : Nat) (p : OrdP), P[i]? = some p → (ordC P)[i * 6]? = some (.int .u8 p.1.kind) ∧ (ordC P)[i * 6 + 1]? = some (.int .i64 p.1.addr) ∧ (ordC P)[i * 6 + 2]? = some (.int .u8 p.1.byte) ∧ (ordC P)[i * 6 + 3]? = some (.bool p.1.ge) ∧ (ordC P)[i * 6 + 4]? = some p.2.1 ∧ (ordC P)[i * 6 + 5]? = some p.2.2
  | [], i, p, h => by simp at h
  | q :: P, 0, p, h => by
    obtain rfl : q = p := by simpa using h
    exact ⟨rfl, rfl, rfl, rfl, rfl, rfl⟩
  | q :: P, i + 1, p, h => by
    have := ordC_get P i p (by simpa using h)
    rw [show (i + 1) * 6 = i * 6 + 1 + 1 + 1 + 1 + 1 + 1 by omega]
    exact this
theorem own_cell {e : TypeId} {k n s g : Nat} {cap : Nat} {xs : List Value} (h : w.ownsRow s e k (.slice (some ⟨g, 0, none⟩) n cap) n xs) (j : Nat) (x : Value) (hx : xs[j]? = some x) : w.cell? ⟨g, j, none⟩ = some x := by
  have c := World.ownsRow.cells h (g := g) rfl j _ hx
  by_cases hj : j = 0
  · subst hj; simpa [Addr.add] using c
  · simpa [Addr.add, hj] using c
theorem OrdsOwn.at {s : Nat} {P : List OrdP} (h : OrdsOwn s w v P) : OrdsAt w v (P.map (·.1)) := by
  rcases h.row.2 with ⟨rfl, hn⟩ | ⟨g, cap, cur, rfl, hg, hgb, hrest⟩
  · have : P = [] := List.eq_nil_of_length_eq_zero hn
    subst this
    exact ⟨none, 0, rfl, fun h => absurd rfl h⟩
  · refine ⟨some ⟨g, 0, none⟩, cap, by rw [List.length_map], fun hne => ⟨g, 0, rfl, lt_of_block hgb, fun i o ho => ?_⟩⟩
    rw [List.getElem?_map] at ho
    cases hp : P[i]? with
    | none => rw [hp] at ho; cases ho
    | some p =>
      rw [hp] at ho
      obtain rfl : p.1 = o := by simpa using ho
      obtain ⟨f0, f1, f2, f3, f4, f5⟩ := ordC_get P i p hp
      obtain ⟨hpp, hpd⟩ := h.own p (List.mem_of_getElem? hp)
      refine ⟨p.2.1, p.2.2, ?_, hpp.at, hpd.row⟩
      rw [show (0 : Nat) + i * 6 = i * 6 from Nat.zero_add _]
      exact ⟨own_cell h.row _ _ f0, own_cell h.row _ _ f1, own_cell h.row _ _ f2, own_cell h.row _ _ f3, own_cell h.row _ _ f4, own_cell h.row _ _ f5⟩
set_option maxRecDepth 100000 in
set_option maxHeartbeats 2000000 in
theorem sames_any (h : OrdsAt w v L) (k : OrdsAt w u M) (hL : ∀ o ∈ L, o.Ok) (hM : ∀ o ∈ M, o.Ok) (hm : L.length ≤ 1000000) (hq : M.length ≤ 1000000) : Calls Tryd.prog 17 #[v, u] w fun e w' => e = .returned (.bool (decide (L = M))) ∧ Below w.heap.size w w' := by
  obtain ⟨a, c, rfl, hr⟩ := id h
  obtain ⟨a2, c2, rfl, hr2⟩ := id k
  obtain ⟨n, hn⟩ : ∃ n, n = L.length := ⟨_, rfl⟩
  obtain ⟨n2, hn2⟩ : ∃ n2, n2 = M.length := ⟨_, rfl⟩
  have H := Lib.hid h
  have K := Lib.hid k
  rw [← hn] at hm H ⊢
  rw [← hn2] at hq K ⊢
  clear h k hr hr2
  by_cases hl : n = n2
  · subst hl
    have HN := Lib.hid hn
    have HN2 := Lib.hid hn2
    have HOL := Lib.hid hL
    have HOM := Lib.hid hM
    obtain ⟨B, hB⟩ : ∃ B, B = decide (L = M) := ⟨_, rfl⟩
    rw [← hB]
    have HB := Lib.hid hB
    clear hn hn2 hB hL hM
    go_enter Tryd.func17, Tryd.ntmps17
    go_upto_region 4 with fail
    go_loopw [13] (fun i wr => ∃ k : Nat, k ≤ n ∧ i = .int .i64 k ∧ Hid (L.take k = M.take k) ∧ Below w.heap.size w wr) (fun i _ => n - (intOf i).toNat)
    case atStart => exact ⟨0, by omega, rfl, Lib.hid (by simp), Below.refl _ _⟩
    case round =>
      obtain ⟨k, hk, rfl, hsame, hold⟩ := hrel
      have HO := Lib.hid hold
      clear hold
      by_cases hkn : k < n
      · have hkni : (k : Int) < (n : Int) := by omega
        have hk0 : (0 : Int) ≤ (k : Int) := Int.natCast_nonneg _
        obtain ⟨p, hp⟩ : ∃ p, L[k]? = some p := ⟨_, List.getElem?_eq_getElem (by rw [← HN.out]; exact hkn)⟩
        obtain ⟨q, hq2⟩ : ∃ q, M[k]? = some q := ⟨_, List.getElem?_eq_getElem (by rw [← HN2.out]; exact hkn)⟩
        obtain ⟨_, _, e1, hr⟩ := H.out.below HO.out
        obtain ⟨_, _, e2, hr2⟩ := K.out.below HO.out
        injection e1 with e1 ea eb
        injection e2 with e2 ec ed
        subst e1 e2 eb ed
        clear ea ec
        obtain ⟨g, off, rfl, _, hc⟩ := hr (by intro e; rw [e] at hp; simp at hp)
        obtain ⟨g2, off2, rfl, _, hc2⟩ := hr2 (by intro e; rw [e] at hq2; simp at hq2)
        obtain ⟨vp, vd, d, dp, dd⟩ := hc k p hp
        obtain ⟨vp2, vd2, f, fp, fd⟩ := hc2 k q hq2
        have D := Lib.hid hp
        have E := Lib.hid hq2
        have RP : Hid (OrR wr p (.agg #[.int .u8 p.kind, .int .i64 p.addr, .int .u8 p.byte, .bool p.ge, vp, vd])) := Lib.hid ⟨vp, vd, rfl, dp, dd⟩
        have RQ : Hid (OrR wr q (.agg #[.int .u8 q.kind, .int .i64 q.addr, .int .u8 q.byte, .bool q.ge, vp2, vd2])) := Lib.hid ⟨vp2, vd2, rfl, fp, fd⟩
        have hpo := Lib.hid (HOL.out p (List.mem_of_getElem? hp))
        have hqo := Lib.hid (HOM.out q (List.mem_of_getElem? hq2))
        have S1 : Hid (OC g (off + k * 6) p vp vd wr.drew ∧ OC g2 (off2 + k * 6) q vp2 vd2 wr.drew) := Lib.hid ⟨d, f⟩
        have RP1 := Lib.hid (RP.out.below (Below.drew (Below.refl _ wr)))
        have RQ1 := Lib.hid (RQ.out.below (Below.drew (Below.refl _ wr)))
        clear hp hq2 hc hc2 hr hr2 dp dd fp fd
        by_cases hpq : sameO p q = true
        · have HPQ := Lib.hid hpq
          clear hpq
          go_upto_region 6 with fail
          first
          | (go_region_held3 (fun W => (W.cell? ⟨g, off + k * 6, none⟩ = some (.int .u8 p.kind) ∧ W.cell? ⟨g, off + k * 6 + 1, none⟩ = some (.int .i64 p.addr) ∧ W.cell? ⟨g, off + k * 6 + 2, none⟩ = some (.int .u8 p.byte) ∧ W.cell? ⟨g, off + k * 6 + 3, none⟩ = some (.bool p.ge) ∧ W.cell? ⟨g, off + k * 6 + 4, none⟩ = some vp ∧ W.cell? ⟨g, off + k * 6 + 5, none⟩ = some vd) ∧ (W.cell? ⟨g2, off2 + k * 6, none⟩ = some (.int .u8 q.kind) ∧ W.cell? ⟨g2, off2 + k * 6 + 1, none⟩ = some (.int .i64 q.addr) ∧ W.cell? ⟨g2, off2 + k * 6 + 2, none⟩ = some (.int .u8 q.byte) ∧ W.cell? ⟨g2, off2 + k * 6 + 3, none⟩ = some (.bool q.ge) ∧ W.cell? ⟨g2, off2 + k * 6 + 4, none⟩ = some vp2 ∧ W.cell? ⟨g2, off2 + k * 6 + 5, none⟩ = some vd2))
            (with_reducible (first | assumption | exact S1.out | exact S2.out))
            (first | (go_at_call 20; refine (same_any RP1.out RQ1.out hpo.out hqo.out).mono ?_; rw [HPQ.out]; rintro e W2 ⟨rfl, b2⟩; have S2 : Hid (OC g (off + k * 6) p vp vd W2 ∧ OC g2 (off2 + k * 6) q vp2 vd2 W2) := Lib.hid ⟨OC.below S1.out.1 b2, OC.below S1.out.2 b2⟩; have B2 := Lib.hid (HO.out.trans ((Below.drew (Below.refl _ wr)).trans b2 |>.mono HO.out.size)); clear b2)))
          | fail
          all_goals
            go_wp2_with fail
            go_roundw
            case rel => exact ⟨k + 1, by omega, by go_num, Lib.hid (by rw [List.take_add_one, List.take_add_one, hsame.out, D.out, E.out, (sameO_eq p q).1 HPQ.out]), B2.out⟩
            case measure => simp [intOf]; omega
        · have HPQ : Hid (sameO p q = false) := Lib.hid (by simpa using hpq)
          have hBf : B = false := by
            rw [HB.out]
            apply decide_eq_false
            intro e
            have h1 := D.out
            rw [e, E.out] at h1
            injection h1 with h1
            exact hpq ((sameO_eq p q).2 h1.symm)
          subst hBf
          clear hpq
          go_upto_region 6 with fail
          first
          | (go_region_held3 (fun W => (W.cell? ⟨g, off + k * 6, none⟩ = some (.int .u8 p.kind) ∧ W.cell? ⟨g, off + k * 6 + 1, none⟩ = some (.int .i64 p.addr) ∧ W.cell? ⟨g, off + k * 6 + 2, none⟩ = some (.int .u8 p.byte) ∧ W.cell? ⟨g, off + k * 6 + 3, none⟩ = some (.bool p.ge) ∧ W.cell? ⟨g, off + k * 6 + 4, none⟩ = some vp ∧ W.cell? ⟨g, off + k * 6 + 5, none⟩ = some vd) ∧ (W.cell? ⟨g2, off2 + k * 6, none⟩ = some (.int .u8 q.kind) ∧ W.cell? ⟨g2, off2 + k * 6 + 1, none⟩ = some (.int .i64 q.addr) ∧ W.cell? ⟨g2, off2 + k * 6 + 2, none⟩ = some (.int .u8 q.byte) ∧ W.cell? ⟨g2, off2 + k * 6 + 3, none⟩ = some (.bool q.ge) ∧ W.cell? ⟨g2, off2 + k * 6 + 4, none⟩ = some vp2 ∧ W.cell? ⟨g2, off2 + k * 6 + 5, none⟩ = some vd2))
            (with_reducible (first | assumption | exact S1.out | exact S2.out))
            (first | (go_at_call 20; refine (same_any RP1.out RQ1.out hpo.out hqo.out).mono ?_; rw [HPQ.out]; rintro e W2 ⟨rfl, b2⟩; have S2 : Hid (OC g (off + k * 6) p vp vd W2 ∧ OC g2 (off2 + k * 6) q vp2 vd2 W2) := Lib.hid ⟨OC.below S1.out.1 b2, OC.below S1.out.2 b2⟩; have B2 := Lib.hid (HO.out.trans ((Below.drew (Below.refl _ wr)).trans b2 |>.mono HO.out.size)); clear b2)))
          | fail
          all_goals
            go_wp2_with fail
            go_ret
            exact ⟨rfl, B2.out⟩
      · obtain rfl : n = k := by omega
        have hBt : B = true := by
          rw [HB.out]
          apply decide_eq_true
          have := hsame.out
          rwa [List.take_of_length_le (by rw [← HN.out]; exact Nat.le_refl _), List.take_of_length_le (by rw [← HN2.out]; exact Nat.le_refl _)] at this
        subst hBt
        go_wp2_with fail
        go_ret
        exact ⟨rfl, HO.out⟩
  · have hB : decide (L = M) = false := decide_eq_false fun e => hl (by rw [hn, hn2, e])
    rw [hB]
    have hli : ((n : Int) == (n2 : Int)) = false := by simp; omega
    clear hB hn hn2 hl
    go_enter Tryd.func17, Tryd.ntmps17
    go_wp2_with fail
    go_ret
    exact ⟨rfl, Below.refl _ _⟩
end
end Go.Proofs.YtjeknociobbhpaaDoor.Ord
