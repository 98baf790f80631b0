/-
  What is written is parsed as it: plainly, of one order.
  What is written is parsed as it, and what is parsed may be written (but for its places): plainly.
  What is written is small, and is bytes: plainly.
-/
import Derived.Test.YtjeknociobbhpaaDoorRef12P
import Derived.Test.YtjeknociobbhpaaDoorOrdZC
import Derived.Test.YtjeknociobbhpaaDoorOrdQ
import Derived.Test.YtjeknociobbhpaaDoorOrdT
namespace Go.Proofs.YtjeknociobbhpaaDoor.Ord
open Go.RowKit Base
set_option linter.unusedVariables false
set_option linter.unusedSimpArgs false

theorem dig_mod (v : Int) (h0 : 0 ≤ v) (h1 : v < 64) : Dig.dig v % 64 = v := by
  unfold Dig.dig
  split <;> omega
theorem dig_ge (v : Int) (h0 : 0 ≤ v) (h1 : v < 64) : 64 ≤ Dig.dig v ∧ Dig.dig v < 256 := by
  unfold Dig.dig
  split <;> omega
theorem dec_enc (p n : Int) (h : Dig.encE p n = 0) : dec (Dig.encA p n) (Dig.encB p n) = p := by
  have hn : ¬ (n < 1 ∨ 16384 < n ∨ p < 0 ∨ n ≤ p) := fun hc => by
    have := (Dig.enc_bad p n hc).2.2
    omega
  by_cases h4 : n ≤ 4096
  · obtain ⟨e1, e2, _⟩ := Dig.enc_small p n hn h4
    have a1 := dig_mod (p / 64) (by omega) (by omega)
    have a2 := dig_mod (p % 64) (by omega) (by omega)
    have a3 := dig_ge (p / 64) (by omega) (by omega)
    rw [e1, e2]
    unfold dec
    rw [if_neg (by omega), a1, a2]
    omega
  · obtain ⟨e1, e2, _⟩ := Dig.enc_great p n hn h4
    rw [e1, e2]
    unfold dec
    rw [if_pos (by omega)]
    omega
theorem parse_one {X : List Int} {o : Or} (h0 : 0 < X.length) (h : orderM X 0 = .ok o X.length) : parseL X (X.length + 1) 0 = ([o], X.length, none) := by
  unfold parseL
  rw [if_pos h0, h]
  simp only
  rw [parseL_end X X.length X.length (by omega)]
theorem orderM_not {X : List Int} {k : Int} {r : List Int} (hX : X = k :: r) (h : plain k = false) : orderM X 0 = ordK X k 1 := by
  unfold orderM
  rw [hX]
  rw [if_neg (by simp [h])]
  simp
theorem pairs_back (k : Int) : ∀ (ps : List (Int × Int)) (X A B : List Int), X = A ++ flatI ps ++ B → fitM k ps = true → pairsM X k ps.length A.length = .ok ps (A.length + 2 * ps.length)
  | [], X, A, B, hX, hf => rfl
  | p :: ps, X, A, B, hX, hf => by
    have hX' : X = A ++ (p.1 :: p.2 :: (flatI ps ++ B)) := by rw [hX]; simp [flatI]
    unfold fitM at hf
    rw [List.all_cons, Bool.and_eq_true] at hf
    have h1 : X[A.length]? = some p.1 := by rw [hX', List.getElem?_append_right (Nat.le_refl _)]; simp
    have h2 : X[A.length + 1]? = some p.2 := by rw [hX', List.getElem?_append_right (by omega)]; simp
    have hp := pairM_at (kind := k) h1 h2
    rw [if_pos hf.1] at hp
    have ih := pairs_back k ps X (A ++ [p.1, p.2]) B (by rw [hX']; simp) hf.2
    show (pairM X k A.length).andThen (fun p j => (pairsM X k ps.length j).andThen fun ps k => .ok (p :: ps) k) = _
    rw [hp]
    show (pairsM X k ps.length (A.length + 2)).andThen _ = _
    rw [show A.length + 2 = (A ++ [p.1, p.2]).length by simp, ih]
    show Rd.ok _ _ = Rd.ok _ _
    rw [List.length_append, List.length_cons]
    congr 1
    simp
    omega
theorem sba_ok {L : List Int} {k x y : Int} {i : Nat} (hk : k = 17 ∨ k = 18) (hx : L[i + 1]? = some x) (hy : L[i + 2]? = some y) : ordK L k (i + 1) = .ok ⟨k, dec x y, 0, false, [], []⟩ (i + 3) := by
  rcases hk with rfl | rfl
  · exact place_ok hx hy
  · exact place_ok hx hy
theorem ra_then {L : List Int} {x y : Int} {i : Nat} (hx : L[i + 1]? = some x) (hy : L[i + 2]? = some y) : ordK L 60 (i + 1) = (signM L (i + 3)).andThen fun p m => .ok ⟨60, dec x y, p.1, p.2, [], []⟩ m := place_ok hx hy
structure ChkP (o : Or) (n : Int) : Prop where
  kn : known o.kind = true
  bl : belM o.kind o.addr o.byte o.ge o.pairs.length o.data.length = true
  mn : manyM o.kind o.pairs.length = false
  pl : plcM o.kind o.addr n = true
  sh : shnM o.kind o.byte o.ge o.data = true
  ft : fitM o.kind o.pairs = true
theorem chk_all {o : Or} {n : Int} (h : chkO o n = 0) : ChkP o n := by
  unfold chkO at h
  split at h
  · cases h
  · next h1 =>
    split at h
    · cases h
    · next h2 =>
      split at h
      · cases h
      · next h3 =>
        split at h
        · cases h
        · next h4 =>
          split at h
          · cases h
          · next h5 =>
            split at h
            · cases h
            · next h6 =>
              exact ⟨by simpa using h1, by simpa using h2, by simpa using h3, by simpa using h4, by simpa using h5, by simpa using h6⟩
theorem dataL_all (D : List Int) (h : D.all plain = true) : dataL D 0 = D := by
  unfold dataL
  rw [List.drop_zero]
  induction D with
  | nil => rfl
  | cons x D ih =>
    rw [List.all_cons, Bool.and_eq_true] at h
    rw [List.takeWhile_cons_of_pos h.1, ih h.2]
theorem one_back (o : Or) (n : Int) (h : chkO o n = 0) (hsf : o.kind = 29 → o.byte < 64) (hb : 0 ≤ o.byte) : parseL (encO o n) ((encO o n).length + 1) 0 = (joinO [o], (encO o n).length, none) := by
  obtain ⟨kn, bl, mn, pl, sh, ft⟩ := chk_all h
  clear h
  obtain ⟨k, a, b, g, ps, D⟩ := o
  simp only at kn bl mn pl sh ft hsf hb
  simp only [belM, Bool.and_eq_true, Bool.or_eq_true, Bool.not_eq_true', beq_iff_eq] at bl
  obtain ⟨⟨⟨⟨ba, bb⟩, bg⟩, bp⟩, bd⟩ := bl
  have hj : ∀ k a b g ps, k ≠ 0 → joinO [(⟨k, a, b, g, ps, []⟩ : Or)] = [⟨k, a, b, g, ps, []⟩] := fun k a b g ps hk => by
    show joinStep [] _ = _
    unfold joinStep
    rw [if_neg (fun h => hk h.1)]
    rfl
  rcases known_cases k kn with rfl | rfl | rfl | rfl | (rfl | rfl | rfl) | (rfl | rfl) | rfl | rfl
  · -- data
    obtain rfl : a = 0 := by simpa [hasA] using ba
    obtain rfl : b = 0 := by simpa [hasB] using bb
    obtain rfl : g = false := by simpa using bg
    obtain rfl : ps = [] := by simpa [hasP] using bp
    have hall : D.all plain = true := by simpa [shnM] using sh
    show parseL D (D.length + 1) 0 = _
    by_cases hD : D = []
    · subst hD; rfl
    · have hpos : 0 < D.length := List.length_pos_iff.2 hD
      have h0 : plain (D[0]?.getD 0) = true := by
        rw [List.getElem?_eq_getElem hpos]
        exact (List.all_eq_true.1 hall) _ (List.getElem_mem hpos)
      have ho : orderM D 0 = .ok ⟨0, 0, 0, false, [], D⟩ D.length := by
        unfold orderM
        rw [if_pos h0, dataL_all D hall, Nat.zero_add]
      rw [parse_one hpos ho]
      show _ = (joinStep [] _, _, _)
      unfold joinStep
      rw [if_neg (fun h => hD h.2)]
      rfl
  · -- GE
    obtain rfl : a = 0 := by simpa [hasA] using ba
    obtain rfl : g = false := by simpa using bg
    obtain rfl : ps = [] := by simpa [hasP] using bp
    obtain rfl : D = [] := by simpa using bd
    rw [hj _ _ _ _ _ (by decide)]
    have hs : ¬ b < 64 := by
      have : decide (64 ≤ b) = true := by simpa [shnM, standsB] using sh
      have := of_decide_eq_true this
      omega
    rw [show encO ⟨8, 0, b, false, [], []⟩ n = [8, b] by simp [encO, encT, hasA]]
    exact parse_one (by simp) ((orderM_not (k := 8) rfl (by decide)).trans (ge_ok (i := 0) rfl hs))
  · -- SF
    obtain rfl : a = 0 := by simpa [hasA] using ba
    obtain rfl : g = false := by simpa using bg
    obtain rfl : ps = [] := by simpa [hasP] using bp
    obtain rfl : D = [] := by simpa using bd
    rw [hj _ _ _ _ _ (by decide)]
    have h64 := hsf rfl
    rw [show encO ⟨29, 0, b, false, [], []⟩ n = [29, Dig.dig (b % 64)] by simp [encO, encT, hasA]]
    refine parse_one (by simp) ((orderM_not (k := 29) rfl (by decide)).trans ((sf_ok (i := 0) (x := Dig.dig (b % 64)) rfl).trans ?_))
    rw [dig_mod (b % 64) (by omega) (by omega), show b % 64 = b by omega]
    rfl
  · -- RA
    obtain rfl : ps = [] := by simpa [hasP] using bp
    obtain rfl : D = [] := by simpa using bd
    rw [hj _ _ _ _ _ (by decide)]
    have hpe : Dig.encE a n = 0 := by simpa [plcM, hasA] using pl
    have hs : standsB b g = true := by simpa [shnM] using sh
    have hd := dec_enc a n hpe
    cases g
    · have hpl : plain b = true := hs
      have h8 : ¬ b = 8 := by rintro rfl; revert hpl; decide
      rw [show encO ⟨60, a, b, false, [], []⟩ n = [60, Dig.encA a n, Dig.encB a n, b] by simp [encO, encT, hasA]]
      refine parse_one (by simp) ((orderM_not (k := 60) rfl (by decide)).trans ((ra_then (i := 0) (x := Dig.encA a n) (y := Dig.encB a n) rfl rfl).trans ((sign_ok (i := 0) (z := b) rfl h8 hpl).trans ?_)))
      rw [hd]
      rfl
    · have h64 : ¬ b < 64 := by
        have := of_decide_eq_true (show decide (64 ≤ b) = true from hs)
        omega
      rw [show encO ⟨60, a, b, true, [], []⟩ n = [60, Dig.encA a n, Dig.encB a n, 8, b] by simp [encO, encT, hasA]]
      refine parse_one (by simp) ((orderM_not (k := 60) rfl (by decide)).trans ((ra_then (i := 0) (x := Dig.encA a n) (y := Dig.encB a n) rfl rfl).trans ((sign_ge (i := 0) (u := b) rfl rfl h64).trans ?_)))
      rw [hd]
      rfl
  · -- PT
    obtain rfl : a = 0 := by simpa [hasA] using ba
    obtain rfl : b = 0 := by simpa [hasB] using bb
    obtain rfl : g = false := by simpa using bg
    obtain rfl : ps = [] := by simpa [hasP] using bp
    obtain rfl : D = [] := by simpa using bd
    rfl
  · -- IC
    obtain rfl : a = 0 := by simpa [hasA] using ba
    obtain rfl : b = 0 := by simpa [hasB] using bb
    obtain rfl : g = false := by simpa using bg
    obtain rfl : ps = [] := by simpa [hasP] using bp
    obtain rfl : D = [] := by simpa using bd
    rfl
  · -- SA
    obtain rfl : a = 0 := by simpa [hasA] using ba
    obtain rfl : b = 0 := by simpa [hasB] using bb
    obtain rfl : g = false := by simpa using bg
    obtain rfl : D = [] := by simpa using bd
    rw [hj _ _ _ _ _ (by decide)]
    have hl : ps.length = 1 := by simp [manyM] at mn; omega
    have hp := pairs_back 40 ps ([40] ++ flatI ps ++ []) [40] [] rfl ft
    rw [hl] at hp
    have he : encO ⟨40, 0, 0, false, ps, []⟩ n = [40] ++ flatI ps ++ [] := by simp [encO, encT, hasA]
    rw [he]
    refine parse_one (by simp) ?_
    refine (orderM_not (k := 40) rfl (by decide)).trans ((sa_ok (i := 0) hp).trans ?_)
    rw [List.length_append, List.length_append, flatI_len, hl]
    rfl
  · -- SBA
    obtain rfl : b = 0 := by simpa [hasB] using bb
    obtain rfl : g = false := by simpa using bg
    obtain rfl : ps = [] := by simpa [hasP] using bp
    obtain rfl : D = [] := by simpa using bd
    rw [hj _ _ _ _ _ (by decide)]
    have hd := dec_enc a n (by simpa [plcM, hasA] using pl)
    rw [show encO ⟨17, a, 0, false, [], []⟩ n = [17, Dig.encA a n, Dig.encB a n] by simp [encO, encT, hasA, flatI]]
    refine parse_one (by simp) ((orderM_not (k := 17) rfl (by decide)).trans ((sba_ok (i := 0) (x := Dig.encA a n) (y := Dig.encB a n) (.inl rfl) rfl rfl).trans ?_))
    rw [hd]
    rfl
  · -- EUA
    obtain rfl : b = 0 := by simpa [hasB] using bb
    obtain rfl : g = false := by simpa using bg
    obtain rfl : ps = [] := by simpa [hasP] using bp
    obtain rfl : D = [] := by simpa using bd
    rw [hj _ _ _ _ _ (by decide)]
    have hd := dec_enc a n (by simpa [plcM, hasA] using pl)
    rw [show encO ⟨18, a, 0, false, [], []⟩ n = [18, Dig.encA a n, Dig.encB a n] by simp [encO, encT, hasA, flatI]]
    refine parse_one (by simp) ((orderM_not (k := 18) rfl (by decide)).trans ((sba_ok (i := 0) (x := Dig.encA a n) (y := Dig.encB a n) (.inr rfl) rfl rfl).trans ?_))
    rw [hd]
    rfl
  · -- SFE
    obtain rfl : a = 0 := by simpa [hasA] using ba
    obtain rfl : b = 0 := by simpa [hasB] using bb
    obtain rfl : g = false := by simpa using bg
    obtain rfl : D = [] := by simpa using bd
    rw [hj _ _ _ _ _ (by decide)]
    have hp := pairs_back 41 ps ([41, (ps.length : Int)] ++ flatI ps ++ []) [41, (ps.length : Int)] [] rfl ft
    have he : encO ⟨41, 0, 0, false, ps, []⟩ n = [41, (ps.length : Int)] ++ flatI ps ++ [] := by simp [encO, encT, hasA]
    rw [he]
    refine parse_one (by simp) ?_
    refine (orderM_not (k := 41) rfl (by decide)).trans ((sfe_ok (i := 0) (x := (ps.length : Int)) (l := 2 + 2 * ps.length) (ps := ps) (.inl rfl) rfl (by simpa using hp)).trans ?_)
    congr 1
    simp [flatI_len]
    omega
  · -- MF
    obtain rfl : a = 0 := by simpa [hasA] using ba
    obtain rfl : b = 0 := by simpa [hasB] using bb
    obtain rfl : g = false := by simpa using bg
    obtain rfl : D = [] := by simpa using bd
    rw [hj _ _ _ _ _ (by decide)]
    have hp := pairs_back 44 ps ([44, (ps.length : Int)] ++ flatI ps ++ []) [44, (ps.length : Int)] [] rfl ft
    have he : encO ⟨44, 0, 0, false, ps, []⟩ n = [44, (ps.length : Int)] ++ flatI ps ++ [] := by simp [encO, encT, hasA]
    rw [he]
    refine parse_one (by simp) ?_
    refine (orderM_not (k := 44) rfl (by decide)).trans ((sfe_ok (i := 0) (x := (ps.length : Int)) (l := 2 + 2 * ps.length) (ps := ps) (.inr rfl) rfl (by simpa using hp)).trans ?_)
    congr 1
    simp [flatI_len]
    omega
end Go.Proofs.YtjeknociobbhpaaDoor.Ord
namespace Go.Proofs.YtjeknociobbhpaaDoor.Ord
open Go.RowKit Base
set_option linter.unusedVariables false
set_option linter.unusedSimpArgs false

theorem joinStep_nil (out : List Or) (o : Or) (h : joinStep [] o = []) : joinStep out o = out := by
  have hc : o.kind = 0 ∧ o.data = [] := Classical.byContradiction fun hn => by
    unfold joinStep at h
    rw [if_neg hn] at h
    simp at h
  unfold joinStep
  rw [if_pos hc]
theorem joinStep_one (out : List Or) (o : Or) (h : joinStep [] o ≠ []) : joinStep [] o = [o] := by
  have hc : ¬ (o.kind = 0 ∧ o.data = []) := fun hc => h (by unfold joinStep; rw [if_pos hc])
  unfold joinStep
  rw [if_neg hc]
  rfl
theorem joinO_snoc (A : List Or) (o : Or) : joinO (A ++ [o]) = joinStep (joinO A) o := by
  unfold joinO
  rw [List.foldl_append]
  rfl
theorem parse_nil : parseL [] ([] : List Int).length.succ 0 = ([], 0, none) := rfl
theorem parse_full (L : List Int) (os : List Or) (n : Nat) (h : parseL L (L.length + 1) 0 = (os, n, none)) : Nm os ∧ joinO os = os := by
  have t : Tr L 0 os n none := by
    have t := Tr.of L (L.length + 1) 0 (by omega)
    rw [h] at t
    exact t
  refine ⟨t.nm, ?_⟩
  have := fold_nm os [] t.nm (fun p hp => by simp at hp)
  simpa [joinO] using this
/-- May be written: by check, and an SF's byte has six bits. -/
structure WOk (o : Or) (n : Int) : Prop where
  ck : chkO o n = 0
  sf : o.kind = 29 → o.byte < 64
  b0 : 0 ≤ o.byte
theorem write_back_rev (n : Int) : ∀ (r : List Or), (∀ o ∈ r, WOk o n) → parseL (wBytes r.reverse n) ((wBytes r.reverse n).length + 1) 0 = (joinO r.reverse, (wBytes r.reverse n).length, none)
  | [], _ => rfl
  | o :: r, h => by
    have h1 := write_back_rev n r fun p hp => h p (by simp [hp])
    have ho := h o (by simp)
    have h2 := one_back o n ho.ck ho.sf ho.b0
    have hw : wBytes (o :: r).reverse n = wBytes r.reverse n ++ encO o n := by simp [wBytes]
    rw [hw]
    have h3 := parse_two (wBytes r.reverse n) (encO o n) (joinO r.reverse) (joinO [o]) (encO o n).length none h1 h2
    rw [h3, List.length_append, List.reverse_cons]
    have e1 : joinO [o] = joinStep [] o := rfl
    have e2 := (parse_full _ _ _ h1).2
    congr 1
    rw [joinO_snoc, e1]
    by_cases hn : joinStep [] o = []
    · rw [hn, List.append_nil, e2, joinStep_nil _ _ hn]
    · rw [joinStep_one [] o hn, joinO_snoc, e2]
theorem write_back (n : Int) (os : List Or) (h : ∀ o ∈ os, WOk o n) : parseL (wBytes os n) ((wBytes os n).length + 1) 0 = (joinO os, (wBytes os n).length, none) := by
  have := write_back_rev n os.reverse fun o ho => h o (by simpa using ho)
  rwa [List.reverse_reverse] at this
/-! ### What is parsed -/
structure Prsd (o : Or) (n : Int) : Prop where
  ck : chkO o n = 0 ∨ chkO o n = 32
  sf : o.kind = 29 → o.byte < 64
  b0 : 0 ≤ o.byte
  b1 : o.byte ≤ 255
  a0 : 0 ≤ o.addr
  a1 : o.addr ≤ 65535
  ps : o.pairs.length ≤ 255
theorem pairsM_fit {L : List Int} {k : Int} : ∀ (m : Nat) {i l : Nat} {ps : List (Int × Int)}, pairsM L k m i = .ok ps l → ps.length = m ∧ fitM k ps = true
  | 0, i, l, ps, h => by
    injection h with h _
    subst h
    exact ⟨rfl, rfl⟩
  | m + 1, i, l, ps, h => by
    obtain ⟨a, j, h1, h2⟩ := andThen_ok h
    obtain ⟨b, q, h3, h4⟩ := andThen_ok h2
    have e1 := pairsM_fit m h3
    injection h4 with h4 _
    subst h4
    obtain ⟨t, j1, g1, g2⟩ := andThen_ok h1
    obtain ⟨v, j2, g3, g4⟩ := andThen_ok g2
    split at g4
    · next hc =>
      injection g4 with g4 _
      subst g4
      refine ⟨by simp [e1.1], ?_⟩
      unfold fitM at e1 ⊢
      rw [List.all_cons, e1.2, Bool.and_true]
      exact hc
    · cases g4
theorem chk_two {o : Or} {n : Int} (kn : known o.kind = true) (bl : belM o.kind o.addr o.byte o.ge o.pairs.length o.data.length = true) (mn : manyM o.kind o.pairs.length = false) (sh : shnM o.kind o.byte o.ge o.data = true) (ft : fitM o.kind o.pairs = true) : chkO o n = 0 ∨ chkO o n = 32 := by
  unfold chkO
  rw [if_neg (by simp [kn]), if_neg (by simp [bl]), if_neg (by simp [mn])]
  by_cases hp : plcM o.kind o.addr n = false
  · rw [if_pos hp]; exact .inr rfl
  · rw [if_neg hp, if_neg (by simp [sh]), if_neg (by simp [ft])]; exact .inl rfl
theorem nx_bd {L : List Int} (hL : ∀ x ∈ L, 0 ≤ x ∧ x < 256) {i l : Nat} {c : Int} (h : nx L i = .ok c l) : 0 ≤ c ∧ c < 256 := by
  have e := nx_ok h
  rw [e.1, List.getElem?_eq_getElem e.2.2]
  exact hL _ (List.getElem_mem e.2.2)
theorem dec_bd {a b : Int} (h1 : 0 ≤ a ∧ a < 256) (h2 : 0 ≤ b ∧ b < 256) : 0 ≤ dec a b ∧ dec a b ≤ 65535 := by
  unfold dec
  split <;> omega
theorem place_bd {L : List Int} (hL : ∀ x ∈ L, 0 ≤ x ∧ x < 256) {i l : Nat} {x : Int} (h : placeM L i = .ok x l) : 0 ≤ x ∧ x ≤ 65535 := by
  obtain ⟨a, j, h1, h2⟩ := andThen_ok h
  obtain ⟨b, k, h3, h4⟩ := andThen_ok h2
  injection h4 with h4 _
  subst h4
  exact dec_bd (nx_bd hL h1) (nx_bd hL h3)
theorem shown_val {b : Int} {ge : Bool} {j l : Nat} {p : Int × Bool} (h : shownM b ge j = .ok p l) : p = (b, ge) ∧ standsB b ge = true := by
  unfold shownM at h
  split at h
  · next hs => injection h with h _; exact ⟨h.symm, hs⟩
  · cases h
theorem orderM_prsd {L : List Int} (hL : ∀ x ∈ L, 0 ≤ x ∧ x < 256) {i l : Nat} {o : Or} (n : Int) (h : orderM L i = .ok o l) : Prsd o n := by
  unfold orderM at h
  split at h
  · injection h with h _
    subst h
    refine ⟨chk_two (by rfl) (by simp [belM]) (by rfl) ?_ rfl, by simp, by simp, by simp, by simp, by simp, by simp⟩
    show (dataL L i).all plain = true
    unfold dataL
    exact List.all_takeWhile
  · generalize L[i]?.getD 0 = k at h
    unfold ordK at h
    split at h
    · next hk =>
      injection h with h _
      subst h
      refine ⟨chk_two (by rcases hk with rfl | rfl <;> rfl) (by simp [belM]) (by rcases hk with rfl | rfl <;> rfl) (by rcases hk with rfl | rfl <;> rfl) rfl, by rcases hk with rfl | rfl <;> simp, by simp, by simp, by simp, by simp, by simp⟩
    · split at h
      · next hk =>
        obtain ⟨x, m, h1, h2⟩ := andThen_ok h
        injection h2 with h2 _
        subst h2
        have hx := place_bd hL h1
        refine ⟨chk_two (by rcases hk with rfl | rfl <;> rfl) (by rcases hk with rfl | rfl <;> simp [belM, hasA]) (by rcases hk with rfl | rfl <;> rfl) (by rcases hk with rfl | rfl <;> rfl) rfl, by rcases hk with rfl | rfl <;> simp, by simp, by simp, hx.1, hx.2, by simp⟩
      · split at h
        · next hk =>
          subst hk
          obtain ⟨c, m, h1, h2⟩ := andThen_ok h
          obtain ⟨p, q, h3, h4⟩ := andThen_ok h2
          injection h4 with h4 _
          subst h4
          obtain ⟨rfl, hs⟩ := shown_val h3
          have hc := nx_bd hL h1
          refine ⟨chk_two (by rfl) (by simp [belM, hasB]) (by rfl) (by simpa [shnM] using hs) rfl, by simp, hc.1, by simp only; omega, by simp, by simp, by simp⟩
        · split at h
          · next hk =>
            subst hk
            obtain ⟨x, m, h1, h2⟩ := andThen_ok h
            obtain ⟨p, q, h3, h4⟩ := andThen_ok h2
            injection h4 with h4 _
            subst h4
            have hx := place_bd hL h1
            obtain ⟨b, j, g1, g2⟩ := andThen_ok h3
            have hb := nx_bd hL g1
            split at g2
            · obtain ⟨c, j2, g3, g4⟩ := andThen_ok g2
              obtain ⟨rfl, hs⟩ := shown_val g4
              have hc := nx_bd hL g3
              exact ⟨chk_two (by rfl) (by simp [belM, hasA, hasB]) (by rfl) (by simpa [shnM] using hs) rfl, by simp, hc.1, by simp only; omega, hx.1, hx.2, by simp⟩
            · obtain ⟨rfl, hs⟩ := shown_val g2
              exact ⟨chk_two (by rfl) (by simp [belM, hasA, hasB]) (by rfl) (by simpa [shnM] using hs) rfl, by simp, hb.1, by simp only; omega, hx.1, hx.2, by simp⟩
          · split at h
            · next hk =>
              subst hk
              obtain ⟨c, m, h1, h2⟩ := andThen_ok h
              injection h2 with h2 _
              subst h2
              have hc := nx_bd hL h1
              exact ⟨chk_two (by rfl) (by simp [belM, hasB]) (by rfl) (by simp [shnM]; omega) rfl, fun _ => by simp only; omega, by simp only; omega, by simp only; omega, by simp, by simp, by simp⟩
            · split at h
              · next hk =>
                subst hk
                obtain ⟨c, m, h1, h2⟩ := andThen_ok h
                obtain ⟨hl, hf⟩ := pairsM_fit 1 h1
                injection h2 with h2 _
                subst h2
                exact ⟨chk_two (by rfl) (by simp [belM, hasP]) (by simp [manyM, hl]) (by simp [shnM]) hf, by simp, by simp, by simp, by simp, by simp, by simp only; omega⟩
              · split at h
                · next hk =>
                  obtain ⟨c, m, h1, h2⟩ := andThen_ok h
                  obtain ⟨ps, q, h3, h4⟩ := andThen_ok h2
                  obtain ⟨hl, hf⟩ := pairsM_fit _ h3
                  have hc := nx_bd hL h1
                  injection h4 with h4 _
                  subst h4
                  have h255 : ps.length ≤ 255 := by omega
                  refine ⟨chk_two (by rcases hk with rfl | rfl <;> rfl) (by rcases hk with rfl | rfl <;> simp [belM, hasP]) ?_ (by rcases hk with rfl | rfl <;> simp [shnM]) hf, by rcases hk with rfl | rfl <;> simp, by simp, by simp, by simp, by simp, h255⟩
                  rcases hk with rfl | rfl <;> simp [manyM] <;> omega
                · cases h
theorem Tr.prsd {L : List Int} (hL : ∀ x ∈ L, 0 ≤ x ∧ x < 256) (m : Int) {i n : Nat} {os : List Or} {g : Option Flt} (t : Tr L i os n g) : ∀ o ∈ os, Prsd o m := by
  induction t with
  | stop h => simp
  | bad h e => simp
  | @step i j n o os g h e t ih =>
    intro p hp
    rcases List.mem_cons.1 hp with rfl | hp
    · exact orderM_prsd hL m e
    · exact ih p hp
theorem parse_prsd (L : List Int) (hL : ∀ x ∈ L, 0 ≤ x ∧ x < 256) (m : Int) (os : List Or) (n : Nat) (g : Option Flt) (h : parseL L (L.length + 1) 0 = (os, n, g)) : ∀ o ∈ os, Prsd o m := by
  have t := Tr.of L (L.length + 1) 0 (by omega)
  rw [h] at t
  exact t.prsd hL m
theorem wErr_two (n : Int) : ∀ (os : List Or), (∀ o ∈ os, Prsd o n) → wErr os n = 0 ∨ wErr os n = 32
  | [], _ => .inl rfl
  | o :: os, h => by
    unfold wErr
    have ho := (h o (by simp)).ck
    by_cases h0 : chkO o n = 0
    · rw [if_pos h0]; exact wErr_two n os fun p hp => h p (by simp [hp])
    · rw [if_neg h0]
      rcases ho with ho | ho
      · exact absurd ho h0
      · exact .inr ho
theorem wErr_all (n : Int) : ∀ (os : List Or), wErr os n = 0 → ∀ o ∈ os, chkO o n = 0
  | [], _ => by simp
  | o :: os, h => by
    unfold wErr at h
    by_cases h0 : chkO o n = 0
    · rw [if_pos h0] at h
      intro p hp
      rcases List.mem_cons.1 hp with rfl | hp
      · exact h0
      · exact wErr_all n os h p hp
    · rw [if_neg h0] at h
      exact absurd h h0
end Go.Proofs.YtjeknociobbhpaaDoor.Ord
namespace Go.Proofs.YtjeknociobbhpaaDoor.Ord
open Go.RowKit Base
set_option linter.unusedVariables false
set_option linter.unusedSimpArgs false

theorem chk_sf {o : Or} {n : Int} (h : chkO o n = 0) (hk : o.kind = 29) : o.byte < 64 := by
  have := (chk_all h).sh
  rw [hk] at this
  simp [shnM] at this
  omega
def psum (L : List Or) : Nat := (L.map fun o => o.pairs.length).sum
theorem encT_len (o : Or) : (encT o).length ≤ 2 + 2 * o.pairs.length := by
  unfold encT
  repeat' split
  all_goals simp [flatI_len]
  all_goals omega
theorem encO_len (o : Or) (n : Int) : (encO o n).length ≤ 5 + 2 * o.pairs.length + o.data.length := by
  have := encT_len o
  unfold encO
  repeat' split
  all_goals simp
  all_goals omega
theorem wBytes_cons (o : Or) (os : List Or) (n : Int) : wBytes (o :: os) n = encO o n ++ wBytes os n := by simp [wBytes]
theorem wBytes_sum (n : Int) : ∀ (os : List Or), (wBytes os n).length ≤ 5 * os.length + 2 * psum os + dsum os
  | [] => by simp [wBytes]
  | o :: os => by
    have h1 := wBytes_sum n os
    have h2 := encO_len o n
    rw [wBytes_cons, List.length_append]
    simp only [psum, dsum, List.map_cons, List.sum_cons, List.length_cons] at h1 ⊢
    omega
theorem sum_le (f : Or → Nat) (m : Nat) : ∀ (os : List Or), (∀ o ∈ os, f o ≤ m) → (os.map f).sum ≤ m * os.length
  | [], _ => by simp
  | o :: os, h => by
    have h1 := sum_le f m os fun p hp => h p (by simp [hp])
    have h2 := h o (by simp)
    simp only [List.map_cons, List.sum_cons, List.length_cons, Nat.mul_add, Nat.mul_one]
    omega
/-- What has few orders, each of which is small, is written small. -/
theorem wBytes_few (n : Int) (os : List Or) (h : os.length ≤ 40) (hs : ∀ o ∈ os, o.pairs.length ≤ 300 ∧ o.data.length ≤ 300) : (wBytes os n).length ≤ 100000 := by
  have h1 := wBytes_sum n os
  have h2 := sum_le (fun o => o.pairs.length) 300 os fun o ho => (hs o ho).1
  have h3 := sum_le (fun o => o.data.length) 300 os fun o ho => (hs o ho).2
  unfold psum dsum at h1
  omega
theorem Tr.psum {L : List Int} {i n : Nat} {os : List Or} {g : Option Flt} (t : Tr L i os n g) : Ord.psum os + i ≤ n := by
  induction t with
  | stop h => simp [Ord.psum]
  | bad h e => simp [Ord.psum]
  | @step i j n o os g h e t ih =>
    obtain ⟨a1, a2, a3, a4⟩ := orderM_len h e
    simp only [Ord.psum, List.map_cons, List.sum_cons] at ih ⊢
    omega
def By (x : Int) : Prop := 0 ≤ x ∧ x < 256
def Pby (o : Or) : Prop := ∀ p ∈ o.pairs, By p.1 ∧ By p.2
theorem dig_by (x : Int) (h0 : 0 ≤ x) (h1 : x < 64) : By (Dig.dig x) := by
  unfold Dig.dig By
  split <;> omega
theorem encA_by (p n : Int) : By (Dig.encA p n) := by
  unfold Dig.encA
  split
  · exact ⟨by omega, by omega⟩
  · split
    · exact dig_by _ (by omega) (by omega)
    · exact ⟨by omega, by omega⟩
theorem encB_by (p n : Int) : By (Dig.encB p n) := by
  unfold Dig.encB
  split
  · exact ⟨by omega, by omega⟩
  · split
    · exact dig_by _ (by omega) (by omega)
    · exact ⟨by omega, by omega⟩
theorem flatI_by {ps : List (Int × Int)} (h : ∀ p ∈ ps, By p.1 ∧ By p.2) : ∀ x ∈ flatI ps, By x := by
  intro x hx
  unfold flatI at hx
  obtain ⟨p, hp, hx⟩ := List.mem_flatMap.1 hx
  have := h p hp
  simp at hx
  rcases hx with rfl | rfl
  · exact this.1
  · exact this.2
structure Wby (o : Or) : Prop where
  kd : By o.kind
  b : By o.byte
  ps : Pby o
  pl : o.pairs.length ≤ 255
  dt : ∀ x ∈ o.data, By x
theorem encT_by {o : Or} (h : Wby o) : ∀ x ∈ encT o, By x := by
  intro x hx
  have hpl : By (o.pairs.length : Int) := ⟨by omega, by have := h.pl; omega⟩
  have h8 : By 8 := ⟨by omega, by omega⟩
  have hdg : By (Dig.dig (o.byte % 64)) := dig_by _ (by omega) (by omega)
  have hb := h.b
  unfold encT at hx
  split at hx
  · obtain rfl : x = _ := by simpa using hx
    exact hdg
  · split at hx
    · obtain rfl : x = _ := by simpa using hx
      exact hb
    · split at hx
      · rcases List.mem_append.1 hx with hx | hx
        · split at hx
          · obtain rfl : x = _ := by simpa using hx
            exact h8
          · simp at hx
        · obtain rfl : x = _ := by simpa using hx
          exact hb
      · rcases List.mem_append.1 hx with hx | hx
        · split at hx
          · obtain rfl : x = _ := by simpa using hx
            exact hpl
          · simp at hx
        · exact flatI_by h.ps x hx
theorem encO_by {o : Or} (h : Wby o) (n : Int) : ∀ x ∈ encO o n, By x := by
  intro x hx
  unfold encO at hx
  split at hx
  · exact h.dt x hx
  · rcases List.mem_append.1 hx with hx | hx
    · rcases List.mem_append.1 hx with hx | hx
      · obtain rfl : x = _ := by simpa using hx
        exact h.kd
      · split at hx
        · simp at hx
          rcases hx with rfl | rfl
          · exact encA_by _ _
          · exact encB_by _ _
        · simp at hx
    · exact encT_by h x hx
theorem wBytes_by {os : List Or} (h : ∀ o ∈ os, Wby o) (n : Int) : ∀ x ∈ wBytes os n, By x := by
  intro x hx
  unfold wBytes at hx
  obtain ⟨o, ho, hx⟩ := List.mem_flatMap.1 hx
  exact encO_by (h o ho) n x hx
theorem known_by {k : Int} (h : known k = true) : By k := by
  rcases known_cases k h with rfl | rfl | rfl | rfl | (rfl | rfl | rfl) | (rfl | rfl) | rfl | rfl <;> exact ⟨by omega, by omega⟩
/-! ### The pairs of what is parsed are bytes -/
theorem pairsM_by {L : List Int} (hL : ∀ x ∈ L, By x) {k : Int} : ∀ (m : Nat) {i l : Nat} {ps : List (Int × Int)}, pairsM L k m i = .ok ps l → ∀ p ∈ ps, By p.1 ∧ By p.2
  | 0, i, l, ps, h => by
    injection h with h _
    subst h
    simp
  | m + 1, i, l, ps, h => by
    obtain ⟨a, j, h1, h2⟩ := andThen_ok h
    obtain ⟨b, q, h3, h4⟩ := andThen_ok h2
    have e1 := pairsM_by hL m h3
    injection h4 with h4 _
    subst h4
    obtain ⟨t, j1, g1, g2⟩ := andThen_ok h1
    obtain ⟨v, j2, g3, g4⟩ := andThen_ok g2
    split at g4
    · injection g4 with g4 _
      subst g4
      intro p hp
      rcases List.mem_cons.1 hp with rfl | hp
      · exact ⟨nx_bd hL g1, nx_bd hL g3⟩
      · exact e1 p hp
    · cases g4
theorem ordK_by {L : List Int} (hL : ∀ x ∈ L, By x) {k : Int} {j l : Nat} {o : Or} (h : ordK L k j = .ok o l) : Pby o := by
  unfold ordK at h
  split at h
  · injection h with e _; subst e; simp [Pby]
  · split at h
    · obtain ⟨x, m, h1, h2⟩ := andThen_ok h
      injection h2 with e _; subst e; simp [Pby]
    · split at h
      · obtain ⟨x, m, h1, h2⟩ := andThen_ok h
        obtain ⟨y, n, h3, h4⟩ := andThen_ok h2
        injection h4 with e _; subst e; simp [Pby]
      · split at h
        · obtain ⟨x, m, h1, h2⟩ := andThen_ok h
          obtain ⟨y, n, h3, h4⟩ := andThen_ok h2
          injection h4 with e _; subst e; simp [Pby]
        · split at h
          · obtain ⟨x, m, h1, h2⟩ := andThen_ok h
            injection h2 with e _; subst e; simp [Pby]
          · split at h
            · obtain ⟨x, m, h1, h2⟩ := andThen_ok h
              have e1 := pairsM_by hL _ h1
              injection h2 with e e2; subst e; exact e1
            · split at h
              · obtain ⟨x, m, h1, h2⟩ := andThen_ok h
                obtain ⟨y, n, h3, h4⟩ := andThen_ok h2
                have e2 := pairsM_by hL _ h3
                injection h4 with e e3; subst e; exact e2
              · cases h
theorem orderM_by {L : List Int} (hL : ∀ x ∈ L, By x) {i l : Nat} {o : Or} (h : orderM L i = .ok o l) : Pby o := by
  unfold orderM at h
  split at h
  · injection h with e _; subst e; simp [Pby]
  · exact ordK_by hL h
theorem Tr.by_ {L : List Int} (hL : ∀ x ∈ L, By x) {i n : Nat} {os : List Or} {g : Option Flt} (t : Tr L i os n g) : ∀ o ∈ os, Pby o := by
  induction t with
  | stop h => simp
  | bad h e => simp
  | @step i j n o os g h e t ih =>
    intro p hp
    rcases List.mem_cons.1 hp with rfl | hp
    · exact orderM_by hL e
    · exact ih p hp
/-! ### What the walk asks -/
/-- The orders that came in. -/
theorem back_mine (n : Int) (os : List Or) (h : os.length ≤ 40) (hs : ∀ o ∈ os, o.pairs.length ≤ 300 ∧ o.data.length ≤ 300) (hb : ∀ o ∈ os, By o.byte ∧ Pby o ∧ ∀ x ∈ o.data, By x) (he : wErr os n = 0) :
    (wBytes os n).length ≤ 100000 ∧ (∀ x ∈ wBytes os n, By x) ∧ parseL (wBytes os n) ((wBytes os n).length + 1) 0 = (joinO os, (wBytes os n).length, none) := by
  have hc := wErr_all n os he
  refine ⟨wBytes_few n os h hs, wBytes_by (fun o ho => ?_) n, write_back n os fun o ho => ⟨hc o ho, chk_sf (hc o ho), (hb o ho).1.1⟩⟩
  have := chk_ok (hc o ho)
  exact ⟨known_by this.1, (hb o ho).1, (hb o ho).2.1, this.2, (hb o ho).2.2⟩
/-- The orders of bytes. -/
theorem back_parsed (n : Int) (L : List Int) (hL : ∀ x ∈ L, By x) (hm : L.length ≤ 2000) (os : List Or) (k : Nat) (g : Option Flt) (h : parseL L (L.length + 1) 0 = (os, k, g)) :
    (wErr os n = 0 ∨ wErr os n = 32) ∧ (∀ o ∈ os, o.Ok4) ∧ os.length ≤ 2000 ∧ (wBytes os n).length ≤ 100000 ∧ (wErr os n = 0 → (∀ x ∈ wBytes os n, By x) ∧ parseL (wBytes os n) ((wBytes os n).length + 1) 0 = (os, (wBytes os n).length, none)) := by
  have hp := parse_prsd L hL n os k g h
  obtain ⟨hs1, hs2, hs3, hs4⟩ := parse_small L hL (by omega) os k g h
  have t : Tr L 0 os k g := by
    have t := Tr.of L (L.length + 1) 0 (by omega)
    rw [h] at t
    exact t
  have hps := t.psum
  have hby := t.by_ hL
  have hw := wBytes_sum n os
  have hdl : ∀ o ∈ os, o.data.length ≤ dsum os := fun o ho => by
    obtain ⟨i, hi⟩ := List.getElem?_of_mem ho
    have h1 := dsum_take os i o hi
    have h2 := dsum_le os (i + 1)
    omega
  refine ⟨wErr_two n os hp, fun o ho => ?_, by omega, by omega, fun he => ?_⟩
  · have q := hp o ho
    have := hdl o ho
    exact ⟨by have := q.ps; omega, by omega, by have := q.a0; omega, by have := q.a1; omega, q.b0, q.b1⟩
  · have hc := wErr_all n os he
    refine ⟨wBytes_by (fun o ho => ?_) n, ?_⟩
    · have q := hp o ho
      have := chk_ok (hc o ho)
      exact ⟨known_by this.1, ⟨q.b0, by have := q.b1; omega⟩, hby o ho, this.2, (hs4 o ho).dt⟩
    · have := write_back n os fun o ho => ⟨hc o ho, (hp o ho).sf, (hp o ho).b0⟩
      rw [this]
      have hj : joinO os = os := by
        have := fold_nm os [] t.nm (fun p hp => by simp at hp)
        simpa [joinO] using this
      rw [hj]
end Go.Proofs.YtjeknociobbhpaaDoor.Ord
