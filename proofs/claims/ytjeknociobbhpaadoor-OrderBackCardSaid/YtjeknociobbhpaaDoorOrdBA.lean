/-
  What is written is parsed as it: plainly, of one order.
-/
import Derived.Test.YtjeknociobbhpaaDoorRef12P
import Derived.Test.YtjeknociobbhpaaDoorOrdZC
import Derived.Test.YtjeknociobbhpaaDoorOrdQ
namespace Go.Proofs.YtjeknociobbhpaaDoor.Ord
open Go.RowKit Base
set_option linter.unusedVariables false
set_option linter.unusedSimpArgs false

theorem dig_mod (v : Int) (h0 : 0 ≤ v) (h1 : v < 64) : Dig.dig v % 64 = v := by
  unfold Dig.dig
  split <;> omega
theorem dig_ge (v : Int) (h0 : 0 ≤ v) (h1 : v < 64) : 64 ≤ Dig.dig v ∧ Dig.dig v < 256 := by
  unfold Dig.dig
  split <;> omega
theorem dec_enc (p n : Int) (h : Dig.encE p n = 0) : dec (Dig.encA p n) (Dig.encB p n) = p := by
  have hn : ¬ (n < 1 ∨ 16384 < n ∨ p < 0 ∨ n ≤ p) := fun hc => by
    have := (Dig.enc_bad p n hc).2.2
    omega
  by_cases h4 : n ≤ 4096
  · obtain ⟨e1, e2, _⟩ := Dig.enc_small p n hn h4
    have a1 := dig_mod (p / 64) (by omega) (by omega)
    have a2 := dig_mod (p % 64) (by omega) (by omega)
    have a3 := dig_ge (p / 64) (by omega) (by omega)
    rw [e1, e2]
    unfold dec
    rw [if_neg (by omega), a1, a2]
    omega
  · obtain ⟨e1, e2, _⟩ := Dig.enc_great p n hn h4
    rw [e1, e2]
    unfold dec
    rw [if_pos (by omega)]
    omega
theorem parse_one {X : List Int} {o : Or} (h0 : 0 < X.length) (h : orderM X 0 = .ok o X.length) : parseL X (X.length + 1) 0 = ([o], X.length, none) := by
  unfold parseL
  rw [if_pos h0, h]
  simp only
  rw [parseL_end X X.length X.length (by omega)]
theorem orderM_not {X : List Int} {k : Int} {r : List Int} (hX : X = k :: r) (h : plain k = false) : orderM X 0 = ordK X k 1 := by
  unfold orderM
  rw [hX]
  rw [if_neg (by simp [h])]
  simp
theorem pairs_back (k : Int) : ∀ (ps : List (Int × Int)) (X A B : List Int), X = A ++ flatI ps ++ B → fitM k ps = true → pairsM X k ps.length A.length = .ok ps (A.length + 2 * ps.length)
  | [], X, A, B, hX, hf => rfl
  | p :: ps, X, A, B, hX, hf => by
    have hX' : X = A ++ (p.1 :: p.2 :: (flatI ps ++ B)) := by rw [hX]; simp [flatI]
    unfold fitM at hf
    rw [List.all_cons, Bool.and_eq_true] at hf
    have h1 : X[A.length]? = some p.1 := by rw [hX', List.getElem?_append_right (Nat.le_refl _)]; simp
    have h2 : X[A.length + 1]? = some p.2 := by rw [hX', List.getElem?_append_right (by omega)]; simp
    have hp := pairM_at (kind := k) h1 h2
    rw [if_pos hf.1] at hp
    have ih := pairs_back k ps X (A ++ [p.1, p.2]) B (by rw [hX']; simp) hf.2
    show (pairM X k A.length).andThen (fun p j => (pairsM X k ps.length j).andThen fun ps k => .ok (p :: ps) k) = _
    rw [hp]
    show (pairsM X k ps.length (A.length + 2)).andThen _ = _
    rw [show A.length + 2 = (A ++ [p.1, p.2]).length by simp, ih]
    show Rd.ok _ _ = Rd.ok _ _
    rw [List.length_append, List.length_cons]
    congr 1
    simp
    omega
theorem sba_ok {L : List Int} {k x y : Int} {i : Nat} (hk : k = 17 ∨ k = 18) (hx : L[i + 1]? = some x) (hy : L[i + 2]? = some y) : ordK L k (i + 1) = .ok ⟨k, dec x y, 0, false, [], []⟩ (i + 3) := by
  rcases hk with rfl | rfl
  · exact place_ok hx hy
  · exact place_ok hx hy
theorem ra_then {L : List Int} {x y : Int} {i : Nat} (hx : L[i + 1]? = some x) (hy : L[i + 2]? = some y) : ordK L 60 (i + 1) = (signM L (i + 3)).andThen fun p m => .ok ⟨60, dec x y, p.1, p.2, [], []⟩ m := place_ok hx hy
structure ChkP (o : Or) (n : Int) : Prop where
  kn : known o.kind = true
  bl : belM o.kind o.addr o.byte o.ge o.pairs.length o.data.length = true
  mn : manyM o.kind o.pairs.length = false
  pl : plcM o.kind o.addr n = true
  sh : shnM o.kind o.byte o.ge o.data = true
  ft : fitM o.kind o.pairs = true
theorem chk_all {o : Or} {n : Int} (h : chkO o n = 0) : ChkP o n := by
  unfold chkO at h
  split at h
  · cases h
  · next h1 =>
    split at h
    · cases h
    · next h2 =>
      split at h
      · cases h
      · next h3 =>
        split at h
        · cases h
        · next h4 =>
          split at h
          · cases h
          · next h5 =>
            split at h
            · cases h
            · next h6 =>
              exact ⟨by simpa using h1, by simpa using h2, by simpa using h3, by simpa using h4, by simpa using h5, by simpa using h6⟩
theorem dataL_all (D : List Int) (h : D.all plain = true) : dataL D 0 = D := by
  unfold dataL
  rw [List.drop_zero]
  induction D with
  | nil => rfl
  | cons x D ih =>
    rw [List.all_cons, Bool.and_eq_true] at h
    rw [List.takeWhile_cons_of_pos h.1, ih h.2]
theorem one_back (o : Or) (n : Int) (h : chkO o n = 0) (hsf : o.kind = 29 → o.byte < 64) (hb : 0 ≤ o.byte) : parseL (encO o n) ((encO o n).length + 1) 0 = (joinO [o], (encO o n).length, none) := by
  obtain ⟨kn, bl, mn, pl, sh, ft⟩ := chk_all h
  clear h
  obtain ⟨k, a, b, g, ps, D⟩ := o
  simp only at kn bl mn pl sh ft hsf hb
  simp only [belM, Bool.and_eq_true, Bool.or_eq_true, Bool.not_eq_true', beq_iff_eq] at bl
  obtain ⟨⟨⟨⟨ba, bb⟩, bg⟩, bp⟩, bd⟩ := bl
  have hj : ∀ k a b g ps, k ≠ 0 → joinO [(⟨k, a, b, g, ps, []⟩ : Or)] = [⟨k, a, b, g, ps, []⟩] := fun k a b g ps hk => by
    show joinStep [] _ = _
    unfold joinStep
    rw [if_neg (fun h => hk h.1)]
    rfl
  rcases known_cases k kn with rfl | rfl | rfl | rfl | (rfl | rfl | rfl) | (rfl | rfl) | rfl | rfl
  · -- data
    obtain rfl : a = 0 := by simpa [hasA] using ba
    obtain rfl : b = 0 := by simpa [hasB] using bb
    obtain rfl : g = false := by simpa using bg
    obtain rfl : ps = [] := by simpa [hasP] using bp
    have hall : D.all plain = true := by simpa [shnM] using sh
    show parseL D (D.length + 1) 0 = _
    by_cases hD : D = []
    · subst hD; rfl
    · have hpos : 0 < D.length := List.length_pos_iff.2 hD
      have h0 : plain (D[0]?.getD 0) = true := by
        rw [List.getElem?_eq_getElem hpos]
        exact (List.all_eq_true.1 hall) _ (List.getElem_mem hpos)
      have ho : orderM D 0 = .ok ⟨0, 0, 0, false, [], D⟩ D.length := by
        unfold orderM
        rw [if_pos h0, dataL_all D hall, Nat.zero_add]
      rw [parse_one hpos ho]
      show _ = (joinStep [] _, _, _)
      unfold joinStep
      rw [if_neg (fun h => hD h.2)]
      rfl
  · -- GE
    obtain rfl : a = 0 := by simpa [hasA] using ba
    obtain rfl : g = false := by simpa using bg
    obtain rfl : ps = [] := by simpa [hasP] using bp
    obtain rfl : D = [] := by simpa using bd
    rw [hj _ _ _ _ _ (by decide)]
    have hs : ¬ b < 64 := by
      have : decide (64 ≤ b) = true := by simpa [shnM, standsB] using sh
      have := of_decide_eq_true this
      omega
    rw [show encO ⟨8, 0, b, false, [], []⟩ n = [8, b] by simp [encO, encT, hasA]]
    exact parse_one (by simp) ((orderM_not (k := 8) rfl (by decide)).trans (ge_ok (i := 0) rfl hs))
  · -- SF
    obtain rfl : a = 0 := by simpa [hasA] using ba
    obtain rfl : g = false := by simpa using bg
    obtain rfl : ps = [] := by simpa [hasP] using bp
    obtain rfl : D = [] := by simpa using bd
    rw [hj _ _ _ _ _ (by decide)]
    have h64 := hsf rfl
    rw [show encO ⟨29, 0, b, false, [], []⟩ n = [29, Dig.dig (b % 64)] by simp [encO, encT, hasA]]
    refine parse_one (by simp) ((orderM_not (k := 29) rfl (by decide)).trans ((sf_ok (i := 0) (x := Dig.dig (b % 64)) rfl).trans ?_))
    rw [dig_mod (b % 64) (by omega) (by omega), show b % 64 = b by omega]
    rfl
  · -- RA
    obtain rfl : ps = [] := by simpa [hasP] using bp
    obtain rfl : D = [] := by simpa using bd
    rw [hj _ _ _ _ _ (by decide)]
    have hpe : Dig.encE a n = 0 := by simpa [plcM, hasA] using pl
    have hs : standsB b g = true := by simpa [shnM] using sh
    have hd := dec_enc a n hpe
    cases g
    · have hpl : plain b = true := hs
      have h8 : ¬ b = 8 := by rintro rfl; revert hpl; decide
      rw [show encO ⟨60, a, b, false, [], []⟩ n = [60, Dig.encA a n, Dig.encB a n, b] by simp [encO, encT, hasA]]
      refine parse_one (by simp) ((orderM_not (k := 60) rfl (by decide)).trans ((ra_then (i := 0) (x := Dig.encA a n) (y := Dig.encB a n) rfl rfl).trans ((sign_ok (i := 0) (z := b) rfl h8 hpl).trans ?_)))
      rw [hd]
      rfl
    · have h64 : ¬ b < 64 := by
        have := of_decide_eq_true (show decide (64 ≤ b) = true from hs)
        omega
      rw [show encO ⟨60, a, b, true, [], []⟩ n = [60, Dig.encA a n, Dig.encB a n, 8, b] by simp [encO, encT, hasA]]
      refine parse_one (by simp) ((orderM_not (k := 60) rfl (by decide)).trans ((ra_then (i := 0) (x := Dig.encA a n) (y := Dig.encB a n) rfl rfl).trans ((sign_ge (i := 0) (u := b) rfl rfl h64).trans ?_)))
      rw [hd]
      rfl
  · -- PT
    obtain rfl : a = 0 := by simpa [hasA] using ba
    obtain rfl : b = 0 := by simpa [hasB] using bb
    obtain rfl : g = false := by simpa using bg
    obtain rfl : ps = [] := by simpa [hasP] using bp
    obtain rfl : D = [] := by simpa using bd
    rfl
  · -- IC
    obtain rfl : a = 0 := by simpa [hasA] using ba
    obtain rfl : b = 0 := by simpa [hasB] using bb
    obtain rfl : g = false := by simpa using bg
    obtain rfl : ps = [] := by simpa [hasP] using bp
    obtain rfl : D = [] := by simpa using bd
    rfl
  · -- SA
    obtain rfl : a = 0 := by simpa [hasA] using ba
    obtain rfl : b = 0 := by simpa [hasB] using bb
    obtain rfl : g = false := by simpa using bg
    obtain rfl : D = [] := by simpa using bd
    rw [hj _ _ _ _ _ (by decide)]
    have hl : ps.length = 1 := by simp [manyM] at mn; omega
    have hp := pairs_back 40 ps ([40] ++ flatI ps ++ []) [40] [] rfl ft
    rw [hl] at hp
    have he : encO ⟨40, 0, 0, false, ps, []⟩ n = [40] ++ flatI ps ++ [] := by simp [encO, encT, hasA]
    rw [he]
    refine parse_one (by simp) ?_
    refine (orderM_not (k := 40) rfl (by decide)).trans ((sa_ok (i := 0) hp).trans ?_)
    rw [List.length_append, List.length_append, flatI_len, hl]
    rfl
  · -- SBA
    obtain rfl : b = 0 := by simpa [hasB] using bb
    obtain rfl : g = false := by simpa using bg
    obtain rfl : ps = [] := by simpa [hasP] using bp
    obtain rfl : D = [] := by simpa using bd
    rw [hj _ _ _ _ _ (by decide)]
    have hd := dec_enc a n (by simpa [plcM, hasA] using pl)
    rw [show encO ⟨17, a, 0, false, [], []⟩ n = [17, Dig.encA a n, Dig.encB a n] by simp [encO, encT, hasA, flatI]]
    refine parse_one (by simp) ((orderM_not (k := 17) rfl (by decide)).trans ((sba_ok (i := 0) (x := Dig.encA a n) (y := Dig.encB a n) (.inl rfl) rfl rfl).trans ?_))
    rw [hd]
    rfl
  · -- EUA
    obtain rfl : b = 0 := by simpa [hasB] using bb
    obtain rfl : g = false := by simpa using bg
    obtain rfl : ps = [] := by simpa [hasP] using bp
    obtain rfl : D = [] := by simpa using bd
    rw [hj _ _ _ _ _ (by decide)]
    have hd := dec_enc a n (by simpa [plcM, hasA] using pl)
    rw [show encO ⟨18, a, 0, false, [], []⟩ n = [18, Dig.encA a n, Dig.encB a n] by simp [encO, encT, hasA, flatI]]
    refine parse_one (by simp) ((orderM_not (k := 18) rfl (by decide)).trans ((sba_ok (i := 0) (x := Dig.encA a n) (y := Dig.encB a n) (.inr rfl) rfl rfl).trans ?_))
    rw [hd]
    rfl
  · -- SFE
    obtain rfl : a = 0 := by simpa [hasA] using ba
    obtain rfl : b = 0 := by simpa [hasB] using bb
    obtain rfl : g = false := by simpa using bg
    obtain rfl : D = [] := by simpa using bd
    rw [hj _ _ _ _ _ (by decide)]
    have hp := pairs_back 41 ps ([41, (ps.length : Int)] ++ flatI ps ++ []) [41, (ps.length : Int)] [] rfl ft
    have he : encO ⟨41, 0, 0, false, ps, []⟩ n = [41, (ps.length : Int)] ++ flatI ps ++ [] := by simp [encO, encT, hasA]
    rw [he]
    refine parse_one (by simp) ?_
    refine (orderM_not (k := 41) rfl (by decide)).trans ((sfe_ok (i := 0) (x := (ps.length : Int)) (l := 2 + 2 * ps.length) (ps := ps) (.inl rfl) rfl (by simpa using hp)).trans ?_)
    congr 1
    simp [flatI_len]
    omega
  · -- MF
    obtain rfl : a = 0 := by simpa [hasA] using ba
    obtain rfl : b = 0 := by simpa [hasB] using bb
    obtain rfl : g = false := by simpa using bg
    obtain rfl : D = [] := by simpa using bd
    rw [hj _ _ _ _ _ (by decide)]
    have hp := pairs_back 44 ps ([44, (ps.length : Int)] ++ flatI ps ++ []) [44, (ps.length : Int)] [] rfl ft
    have he : encO ⟨44, 0, 0, false, ps, []⟩ n = [44, (ps.length : Int)] ++ flatI ps ++ [] := by simp [encO, encT, hasA]
    rw [he]
    refine parse_one (by simp) ?_
    refine (orderM_not (k := 44) rfl (by decide)).trans ((sfe_ok (i := 0) (x := (ps.length : Int)) (l := 2 + 2 * ps.length) (ps := ps) (.inr rfl) rfl (by simpa using hp)).trans ?_)
    congr 1
    simp [flatI_len]
    omega
end Go.Proofs.YtjeknociobbhpaaDoor.Ord
