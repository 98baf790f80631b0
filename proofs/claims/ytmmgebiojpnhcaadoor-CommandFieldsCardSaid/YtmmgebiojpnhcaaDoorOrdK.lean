/-
  Are two orders the same?
-/
import Derived.Test.YtmmgebiojpnhcaaDoorOrdJ
namespace Go.Proofs.YtmmgebiojpnhcaaDoor.Ord
open Go.RowKit Base
set_option linter.unusedVariables false
set_option linter.unusedSimpArgs false

/-- A row of pairs that can be read. -/
def PrAt (w : World) (v : Value) (ps : List (Int × Int)) : Prop :=
  ∃ a cap, v = .slice a ps.length cap ∧ (ps ≠ [] → ∃ g off, a = some ⟨g, off, none⟩ ∧ ∀ i p, ps[i]? = some p → w.cell? ⟨g, off + i * 2, none⟩ = some (.int .u8 p.1) ∧ w.cell? ⟨g, off + i * 2 + 1, none⟩ = some (.int .u8 p.2))
section
variable {w w' : World} {v u : Value} {ps qs : List (Int × Int)}
theorem PrAt.below (h : PrAt w v ps) (t : Below w.heap.size w w') : PrAt w' v ps := by
  obtain ⟨a, cap, rfl, hr⟩ := h
  refine ⟨a, cap, rfl, fun hne => ?_⟩
  obtain ⟨g, off, rfl, hi⟩ := hr hne
  exact ⟨g, off, rfl, fun i p hp => ⟨(t.cell (p := ⟨_, _, none⟩) (World.block_lt_of_cell? w ⟨_, _, none⟩ (hi i p hp).1)).trans (hi i p hp).1, (t.cell (p := ⟨_, _, none⟩) (World.block_lt_of_cell? w ⟨_, _, none⟩ (hi i p hp).2)).trans (hi i p hp).2⟩⟩
theorem flatP_get : ∀ (ps : List (Int × Int)) (i : Nat) (p : Int × Int), ps[i]? = some p → (flatP ps)[i * 2]? = some (.int .u8 p.1) ∧ (flatP ps)[i * 2 + 1]? = some (.int .u8 p.2)
  | [], i, p, h => by simp at h
  | q :: ps, 0, p, h => by
    obtain rfl : q = p := by simpa using h
    exact ⟨rfl, rfl⟩
  | q :: ps, i + 1, p, h => by
    have := flatP_get ps i p (by simpa using h)
    rw [show (i + 1) * 2 = i * 2 + 1 + 1 by omega]
    exact this
theorem PairRow.at {s : Nat} (h : PairRow s w v ps) : PrAt w v ps := by
  rcases h.2 with ⟨rfl, hn⟩ | ⟨g, cap, cur, rfl, hg, hgb, hrest⟩
  · have : ps = [] := List.eq_nil_of_length_eq_zero hn
    subst this
    exact ⟨none, 0, rfl, fun h => absurd rfl h⟩
  · refine ⟨some ⟨g, 0, none⟩, cap, rfl, fun hne => ⟨g, 0, rfl, fun i p hp => ?_⟩⟩
    obtain ⟨f1, f2⟩ := flatP_get ps i p hp
    have c1 := World.ownsRow.cells h (g := g) rfl (i * 2) _ f1
    have c2 := World.ownsRow.cells h (g := g) rfl (i * 2 + 1) _ f2
    rw [show (0 : Nat) + i * 2 = i * 2 from Nat.zero_add _]
    by_cases hi0 : i = 0
    · subst hi0
      exact ⟨by simpa [Addr.add] using c1, by simpa [Addr.add] using c2⟩
    · have hi2 : ¬ i * 2 = 0 := by omega
      exact ⟨by simpa [Addr.add, hi2] using c1, by simpa [Addr.add] using c2⟩
theorem PrAt.form (h : PrAt w v ps) : ∃ a c, v = .slice a ps.length c := by
  obtain ⟨a, c, rfl, _⟩ := h
  exact ⟨a, c, rfl⟩
set_option maxRecDepth 100000 in
set_option maxHeartbeats 1000000 in
theorem equalP_any (h : PrAt w v ps) (k : PrAt w u qs) (hm : ps.length ≤ 1000000) (hq : qs.length ≤ 1000000) : Calls Tryd.prog 61 #[v, u] w fun e w' => e = .returned (.bool (decide (ps = qs))) ∧ ∃ n, w' = w.drewN n := by
  obtain ⟨a, c, rfl, hr⟩ := h
  obtain ⟨a2, c2, rfl, hr2⟩ := k
  obtain ⟨n, hn⟩ : ∃ n, n = ps.length := ⟨_, rfl⟩
  obtain ⟨n2, hn2⟩ : ∃ n2, n2 = qs.length := ⟨_, rfl⟩
  rw [← hn] at hm ⊢
  rw [← hn2] at hq ⊢
  by_cases hl : n = n2
  · subst hl
    have HR := Lib.hid hr
    have HR2 := Lib.hid hr2
    have HN := Lib.hid hn
    have HN2 := Lib.hid hn2
    obtain ⟨B, hB⟩ : ∃ B, B = decide (ps = qs) := ⟨_, rfl⟩
    rw [← hB]
    have HB := Lib.hid hB
    clear hr hr2 hn hn2 hB
    go_enter Tryd.func61, Tryd.ntmps61
    go_upto_region 4 with fail
    go_loopw [13] (fun i wr => ∃ k : Nat, k ≤ n ∧ i = .int .i64 k ∧ Hid (ps.take k = qs.take k) ∧ ∃ m, wr = w.drewN m) (fun i _ => n - (intOf i).toNat)
    case atStart => exact ⟨0, by omega, rfl, Lib.hid (by simp), 0, rfl⟩
    case round =>
      obtain ⟨k, hk, rfl, hsame, m, rfl⟩ := hrel
      by_cases hkn : k < n
      · have hkni : (k : Int) < (n : Int) := by omega
        have hk0 : (0 : Int) ≤ (k : Int) := Int.natCast_nonneg _
        obtain ⟨p, hp⟩ : ∃ p, ps[k]? = some p := ⟨_, List.getElem?_eq_getElem (by rw [← HN.out]; exact hkn)⟩
        obtain ⟨q, hq2⟩ : ∃ q, qs[k]? = some q := ⟨_, List.getElem?_eq_getElem (by rw [← HN2.out]; exact hkn)⟩
        obtain ⟨g, off, rfl, hc⟩ := HR.out (by intro e; rw [e] at hp; simp at hp)
        obtain ⟨g2, off2, rfl, hc2⟩ := HR2.out (by intro e; rw [e] at hq2; simp at hq2)
        obtain ⟨d0, d1⟩ := hc k p hp
        obtain ⟨e0, e1⟩ := hc2 k q hq2
        have D := Lib.hid hp
        have E := Lib.hid hq2
        obtain ⟨p1, p2⟩ := p
        obtain ⟨q1, q2⟩ := q
        simp only at d0 d1 e0 e1
        clear hp hq2 hc hc2
        by_cases hpq : p1 = q1 ∧ p2 = q2
        · obtain ⟨rfl, rfl⟩ := hpq
          have hnext : Hid (ps.take (k + 1) = qs.take (k + 1)) := Lib.hid (by
            rw [List.take_add_one, List.take_add_one, hsame.out, D.out, E.out])
          go_upto_region 6 with fail
          go_quiet (fail)
          go_wp2_with fail
          go_roundw
          case rel => exact ⟨k + 1, by omega, by go_num, hnext, m + nq, rfl⟩
          case measure => simp [intOf]; omega
        · have hBf : B = false := by
            rw [HB.out]
            apply decide_eq_false
            intro e
            have h1 := D.out
            rw [e, E.out] at h1
            injection h1 with h1
            injection h1 with h1 h2
            exact hpq ⟨h1.symm, h2.symm⟩
          subst hBf
          by_cases h1 : p1 = q1
          · subst h1
            have h2 : (p2 == q2) = false := by simp; exact fun e => hpq ⟨rfl, e⟩
            clear hpq
            go_upto_region 6 with fail
            go_quiet (fail)
            go_wp2_with fail
            go_ret
            exact ⟨rfl, m + nq, World.drewN_drewN ..⟩
          · have h2 : (p1 == q1) = false := by simpa using h1
            clear hpq h1
            go_upto_region 6 with fail
            go_quiet (fail)
            go_wp2_with fail
            go_ret
            exact ⟨rfl, m + nq, World.drewN_drewN ..⟩
      · obtain rfl : n = k := by omega
        have hBt : B = true := by
          rw [HB.out]
          apply decide_eq_true
          have := hsame.out
          rwa [List.take_of_length_le (by rw [← HN.out]; exact Nat.le_refl _), List.take_of_length_le (by rw [← HN2.out]; exact Nat.le_refl _)] at this
        subst hBt
        go_wp2_with fail
        go_ret
        exact ⟨rfl, m, rfl⟩
  · have hB : decide (ps = qs) = false := decide_eq_false fun e => hl (by rw [hn, hn2, e])
    rw [hB]
    have hli : ((n : Int) == (n2 : Int)) = false := by simp; omega
    clear hB hn hn2 hr hr2 hl
    go_enter Tryd.func61, Tryd.ntmps61
    go_wp2_with fail
    go_ret
    exact ⟨rfl, 0, rfl⟩
theorem loopL (bs : ByteArray) : ∀ (n i : Nat) (r : List UInt8), bs.size - i = n → ByteArray.toList.loop bs i r = r.reverse ++ bs.data.toList.drop i := by
  intro n
  induction n with
  | zero =>
    intro i r h
    unfold ByteArray.toList.loop
    rw [if_neg (by omega), List.drop_eq_nil_of_le (by show bs.data.toList.length ≤ i; simp only [Array.length_toList]; have : bs.data.size = bs.size := rfl; omega), List.append_nil]
  | succ n ih =>
    intro i r h
    unfold ByteArray.toList.loop
    have hi : i < bs.size := by omega
    rw [if_pos hi, ih (i + 1) _ (by omega)]
    have hi2 : i < bs.data.toList.length := by simpa using hi
    rw [List.drop_eq_getElem_cons hi2, List.reverse_cons, List.append_assoc]
    congr 1
    simp
    cases bs; simp [ByteArray.get!]; rw [getElem!_pos]
theorem toL (bs : ByteArray) : bs.toList = bs.data.toList := by
  unfold ByteArray.toList
  rw [loopL bs _ 0 [] rfl]
  simp
theorem ofNat_inj : ∀ {X Y : List Int}, (∀ x ∈ X, 0 ≤ x ∧ x < 256) → (∀ x ∈ Y, 0 ≤ x ∧ x < 256) → X.map (fun n => UInt8.ofNat n.toNat) = Y.map (fun n => UInt8.ofNat n.toNat) → X = Y
  | [], [], _, _, _ => rfl
  | [], y :: Y, _, _, h => by cases h
  | x :: X, [], _, _, h => by cases h
  | x :: X, y :: Y, hX, hY, h => by
    rw [List.map_cons, List.map_cons] at h
    injection h with h1 h2
    have bx := hX x (List.mem_cons_self ..)
    have bY := hY y (List.mem_cons_self ..)
    have e : x.toNat = y.toNat := by
      have := congrArg UInt8.toNat h1
      simp at this
      omega
    rw [ofNat_inj (fun z hz => hX z (List.mem_cons_of_mem _ hz)) (fun z hz => hY z (List.mem_cons_of_mem _ hz)) h2, show x = y by omega]
theorem str_inj {X Y : List Int} (hX : ∀ x ∈ X, 0 ≤ x ∧ x < 256) (hY : ∀ x ∈ Y, 0 ≤ x ∧ x < 256) : ((strOfNums X).toList == (strOfNums Y).toList) = decide (X = Y) := by
  rw [toL, toL, strOfNums_data, strOfNums_data]
  by_cases h : X = Y
  · subst h; simp
  · rw [decide_eq_false h]
    simp only [beq_eq_false_iff_ne, ne_eq]
    exact fun e => h (ofNat_inj hX hY e)
theorem bEqual_any {X Y : List Int} (h : RowOf .u8 w v X) (k : RowOf .u8 w u Y) (hX : ∀ x ∈ X, 0 ≤ x ∧ x < 256) (hY : ∀ x ∈ Y, 0 ≤ x ∧ x < 256) : Calls Tryd.prog 62 #[v, u] w fun e w' => e = .returned (.bool (decide (X = Y))) ∧ w = w' := by
  have h1 := row_str h
  have h2 := row_str k
  have hs := str_inj hX hY
  obtain ⟨a, c, rfl, _⟩ := h
  obtain ⟨a2, c2, rfl, _⟩ := k
  have HS := Lib.hid hs
  clear hX hY hs
  go_enter Tryd.func62, Tryd.ntmps62
  go_wp2_with fail
  go_ret
  exact ⟨ret_bool HS.out, rfl⟩
end
end Go.Proofs.YtmmgebiojpnhcaaDoor.Ord
