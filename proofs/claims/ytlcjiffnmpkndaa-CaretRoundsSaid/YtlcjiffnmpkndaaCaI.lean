/-
  Tab again and again, plainly; and what the law of it holds: two rows of numbers, a map.
-/
import Derived.Test.YtlcjiffnmpkndaaCaH
import Derived.Maps.OwnOps
import Derived.Maps.OwnSet
namespace Go.Proofs.Ytlcjiffnmpkndaa.Pl
open Go.RowKit Go.Shelf Go.Maps Base
set_option linter.unusedVariables false
set_option linter.unusedSimpArgs false

/-- The j-th open field's first place, going round. -/
def pT (L : List Cl) (j : Nat) : Int := mv L.length ((opsL L)[j % (opsL L).length]?.getD 0) 1
section
variable {L : List Cl}
theorem pT_get (h : 1 ≤ (opsL L).length) (j : Nat) : ∃ x, (opsL L)[j % (opsL L).length]? = some x ∧ pT L j = mv L.length x 1 := by
  have hl := Nat.mod_lt j (show 0 < (opsL L).length by omega)
  refine ⟨(opsL L)[j % (opsL L).length], List.getElem?_eq_getElem hl, ?_⟩
  unfold pT; rw [List.getElem?_eq_getElem hl]; rfl
theorem pT_tab (h : 1 ≤ (opsL L).length) (j : Nat) : tabL L (pT L j) = pT L (j + 1) := by
  obtain ⟨x, h1, h2⟩ := pT_get h j
  obtain ⟨y, h3, h4⟩ := pT_get h (j + 1)
  rw [h2, h4]
  exact tab_step h1 (by rw [Nat.mod_add_mod]; exact h3)
theorem pT_back (h : 1 ≤ (opsL L).length) (j : Nat) : backC L (pT L (j + 1)) = pT L j := by
  obtain ⟨x, h1, h2⟩ := pT_get h (j + 1)
  obtain ⟨y, h3, h4⟩ := pT_get h j
  rw [h2, h4]
  refine back_step h1 ?_
  rw [Nat.mod_add_mod, show j + 1 + ((opsL L).length - 1) = j + (opsL L).length by omega, Nat.add_mod_right]
  exact h3
theorem pT_round (j : Nat) : pT L (j + (opsL L).length) = pT L j := by unfold pT; rw [Nat.add_mod_right]
theorem pT_bd (hn : 1 ≤ L.length) (j : Nat) : 0 ≤ pT L j ∧ pT L j < L.length := mv_bd (by omega)
theorem mv_inj {n x y : Int} (hx : 0 ≤ x ∧ x < n) (hy : 0 ≤ y ∧ y < n) (h : mv n x 1 = mv n y 1) : x = y := by
  have hn : 0 < n := by omega
  rw [mv_pos hn, mv_pos hn] at h
  have e : ∀ z : Int, 0 ≤ z ∧ z < n → (z + 1) % n = if z + 1 = n then 0 else z + 1 := by
    intro z hz
    split
    · next h => rw [h, Int.emod_self]
    · next h => exact Int.emod_eq_of_lt (by omega) (by omega)
  rw [e x hx, e y hy] at h
  split at h <;> split at h <;> omega
theorem pT_inj (h : 1 ≤ (opsL L).length) {a i j : Nat} (hi : i < (opsL L).length) (hj : j < (opsL L).length) (he : pT L (a + i) = pT L (a + j)) : i = j := by
  obtain ⟨x, h1, h2⟩ := pT_get h (a + i)
  obtain ⟨y, h3, h4⟩ := pT_get h (a + j)
  rw [h2, h4] at he
  have hx := ops_bd x (List.mem_of_getElem? h1)
  have hy := ops_bd y (List.mem_of_getElem? h3)
  have hxy := mv_inj hx hy he
  subst hxy
  have hne : (a + i) % (opsL L).length = (a + j) % (opsL L).length := by
    rcases Nat.lt_trichotomy ((a + i) % (opsL L).length) ((a + j) % (opsL L).length) with hlt | heq | hgt
    · have := pair_get (opsL_pair L) h1 h3 hlt; omega
    · exact heq
    · have := pair_get (opsL_pair L) h3 h1 hgt; omega
  rcases Nat.lt_trichotomy i j with hlt | heq | hgt
  · have h5 := Nat.sub_mod_eq_zero_of_mod_eq hne.symm
    rw [show a + j - (a + i) = j - i by omega, Nat.mod_eq_of_lt (by omega)] at h5
    omega
  · exact heq
  · have h5 := Nat.sub_mod_eq_zero_of_mod_eq hne
    rw [show a + i - (a + j) = i - j by omega, Nat.mod_eq_of_lt (by omega)] at h5
    omega
/-- Each open field's first place is one of those that are come to. -/
theorem pT_all (h : 1 ≤ (opsL L).length) (a : Nat) {i : Nat} {x : Int} (hi : (opsL L)[i]? = some x) : ∃ k, k < (opsL L).length ∧ mv L.length x 1 = pT L (a + k) := by
  have hl : i < (opsL L).length := (List.getElem?_eq_some_iff.1 hi).1
  obtain ⟨m, hm⟩ : ∃ m, m = (opsL L).length := ⟨_, rfl⟩
  have ham := Nat.mod_lt a (show 0 < m by omega)
  have key : ∃ k, k < m ∧ (a + k) % m = i := by
    refine ⟨(i + (m - a % m)) % m, Nat.mod_lt _ (by omega), ?_⟩
    rw [Nat.add_mod, Nat.mod_mod, ← Nat.add_mod, show a + (i + (m - a % m)) = i + (a - a % m) + m by have := Nat.mod_le a m; omega, Nat.add_mod_right]
    have hd : (a - a % m) % m = 0 := Nat.sub_mod_eq_zero_of_mod_eq (by rw [Nat.mod_mod])
    rw [Nat.add_mod, hd, Nat.add_zero, Nat.mod_mod, Nat.mod_eq_of_lt (by omega)]
  obtain ⟨k, hk, he⟩ := key
  refine ⟨k, by omega, ?_⟩
  unfold pT
  rw [← hm, he, hi]; rfl
/-- The places that are come to from the j-th on. -/
def pK2 (L : List Cl) (a k : Nat) : List Int := (List.range k).map fun i => pT L (a + i)
theorem pK2_succ (a k : Nat) : pK2 L a (k + 1) = pK2 L a k ++ [pT L (a + k)] := by unfold pK2; rw [List.range_succ, List.map_append]; rfl
theorem pK2_len (a k : Nat) : (pK2 L a k).length = k := by simp [pK2]
theorem pK2_get (a : Nat) {k i : Nat} (h : i < k) : (pK2 L a k)[i]? = some (pT L (a + i)) := by unfold pK2; rw [List.getElem?_map, List.getElem?_range h]; rfl
end
/-! ### The places that were seen -/
def seenM (xs : List Int) : DataW Unit := xs.foldl (fun D y => D.put (.int .i64 y) (.lit (.bool true))) (.map [])
theorem seenM_snoc (xs : List Int) (y : Int) : seenM (xs ++ [y]) = (seenM xs).put (.int .i64 y) (.lit (.bool true)) := by simp [seenM, List.foldl_append]
theorem lit_neM {a b : Int} (h : a ≠ b) : (Lit.int .i64 a) ≠ .int .i64 b := fun e => h (Lit.int.inj e).2
theorem snoc_ind {P : List Int → Prop} (h0 : P []) (h1 : ∀ xs y, P xs → P (xs ++ [y])) (xs : List Int) : P xs := by
  have : ∀ n (ys : List Int), ys.length = n → P ys := by
    intro n
    induction n with
    | zero => intro ys h; rw [List.eq_nil_of_length_eq_zero h]; exact h0
    | succ n ih =>
      intro ys h
      have hne : ys ≠ [] := fun e => by rw [e] at h; cases h
      rw [← List.dropLast_concat_getLast hne]
      exact h1 _ _ (ih _ (by rw [List.length_dropLast, h]; rfl))
  exact this _ xs rfl
theorem seenM_tidy (xs : List Int) : Tidy (seenM xs) :=
  snoc_ind (P := fun xs => Tidy (seenM xs)) ⟨[], rfl, List.Pairwise.nil⟩ (fun xs y h => by rw [seenM_snoc]; exact Tidy.put (k := .int .i64 y) h trivial _) xs
theorem seenM_at (y : Int) (xs : List Int) : (seenM xs).atKey (.int .i64 y) (.lit (.bool false)) = .lit (.bool (decide (y ∈ xs))) := by
  refine snoc_ind (P := fun xs => (seenM xs).atKey (.int .i64 y) (.lit (.bool false)) = .lit (.bool (decide (y ∈ xs)))) ?_ (fun xs z h => ?_) xs
  · simp [seenM, DataW.atKey]
  · rw [seenM_snoc]
    by_cases he : z = y
    · rw [he, atKey_put_same (k := .int .i64 y) (seenM_tidy xs).isMap trivial, decide_eq_true (by simp)]
    · rw [atKey_put_other (lit_neM (fun e => he e.symm)), h]
      congr 2
      simp [show ¬ y = z from fun e => he e.symm]
theorem seenM_has (y : Int) (xs : List Int) : Maps.has (seenM xs) (.int .i64 y) = decide (y ∈ xs) := by
  refine snoc_ind (P := fun xs => Maps.has (seenM xs) (.int .i64 y) = decide (y ∈ xs)) rfl (fun xs z h => ?_) xs
  rw [seenM_snoc]
  by_cases he : z = y
  · rw [he, has_put_same (k := .int .i64 y) (seenM_tidy xs).isMap trivial, decide_eq_true (by simp)]
  · rw [has_put_other (lit_neM (fun e => he e.symm)), h]
    congr 1
    simp [show ¬ y = z from fun e => he e.symm]
theorem seenM_size {xs : List Int} (hn : xs.Nodup) : Maps.size (seenM xs) = xs.length := by
  revert hn
  refine snoc_ind (P := fun xs => xs.Nodup → Maps.size (seenM xs) = xs.length) (fun _ => rfl) (fun xs z h hn => ?_) xs
  rw [List.nodup_append] at hn
  rw [seenM_snoc, size_put (seenM_tidy xs), seenM_has, decide_eq_false (fun hm => hn.2.2 z hm z (by simp) rfl), h hn.1]
  simp
theorem czero_bool (w : World) : (zeroValue 4).run Try.prog w = .ok (.bool false) w := by kernel_rfl
set_option maxRecDepth 100000 in
theorem cplain_bool {v : Value} {b : Bool} {ps : List MemPlace} (h : plainElem (H := Unit) Try.prog 4 v = some (.lit (.bool b), ps)) : v = .bool b := by
  unfold plainElem at h
  rw [Try.underlying4] at h
  cases v <;> simp at h
  rw [h.1]
/-- The planes, the row of the open fields, the row of the places that are come to. -/
structure CrQ (w : World) (b g : Nat) (r c cur : Int) (L : List Cl) (gx n : Nat) (ov : Value) (m : Nat) (v : Value) (k : Nat) (Y : List Int) (B : Nat) (W : World) : Prop where
  co : CoQ w b g r c cur L gx n W
  ro : RoQ b g ov m (intsV (opsL L)) W
  rv : RoQ b g v k (intsV Y) W
  lo : ∀ j, ov.ownBlock = some j → j < B
  lv : ∀ j, v.ownBlock = some j → B ≤ j
  lb : w.heap.size ≤ B ∧ b < B ∧ g < B ∧ gx < B
  bz : B ≤ W.heap.size
section
variable {w W W' : World} {b g : Nat} {r c cur x : Int} {L : List Cl} {gx n : Nat} {ov v : Value} {m k B : Nat} {Y : List Int}
theorem CrQ.below (h : CrQ w b g r c cur L gx n ov m v k Y B W) (t : Below W.heap.size W W') : CrQ w b g r c cur L gx n ov m v k Y B W' := ⟨h.co.below t, h.ro.below t, h.rv.below t, h.lo, h.lv, h.lb, Nat.le_trans h.bz t.size⟩
theorem CrQ.drew (h : CrQ w b g r c cur L gx n ov m v k Y B W) : CrQ w b g r c cur L gx n ov m v k Y B W.drew := h.below ⟨rfl, rfl, rfl, Nat.le_refl _, fun _ _ => rfl⟩
theorem CrQ.go (h : CrQ w b g r c cur L gx n ov m v k Y B W) (hp : PlAt W' b g r c x L) (t : Turn (At b) W W') : CrQ w b g r c x L gx n ov m v k Y B W' := ⟨h.co.go hp t, h.ro.go t, h.rv.go t, h.lo, h.lv, h.lb, Nat.le_trans h.bz t.size⟩
theorem CrQ.app (h : CrQ w b g r c cur L gx n ov m v k Y B W) {W1 w1 : World} (hb : Below W.heap.size W W1) (hgrow : W1.grownBy w1 v.ownBlock) {v' : Value} {y : Int} (hown : w1.ownsRow 0 3 1 v' (k + 1) (intsV Y ++ [.int .i64 y])) (hat : v'.ownBlock = v.ownBlock ∨ v'.ownBlock = some W1.heap.size) :
    CrQ w b g r c cur L gx n ov m v' (k + 1) (Y ++ [y]) B w1 := by
  have t1 : Turn (fun j => v.ownBlock = some j) W w1 := (Turn.of_below hb).grown hgrow (fun k hk => .inr hk)
  obtain ⟨l1, l2, l3, l4⟩ := h.lb
  have hB : ∀ j, v.ownBlock = some j → B ≤ j := h.lv
  have hWB := h.bz
  have ne : ∀ j, j < B → ¬ v.ownBlock = some j := fun j hj e => by have := hB j e; omega
  refine ⟨⟨h.co.pl.turn t1 (ne b l2) (ne g l3), ⟨own_keep h.co.rx.row t1.size (t1.block gx h.co.rx.lt (ne gx l4)), h.co.rx.len, h.co.rx.most⟩, h.co.lb, h.co.lg, h.co.ne, h.co.old.trans (t1.below h.co.old.size (fun j hj => by have := hB j hj; omega))⟩,
    ⟨row_turn h.ro.row t1 (fun j hj e => by have := h.lo j hj; have := hB j e; omega), h.ro.no⟩, ⟨by rw [intsV, List.map_append]; exact hown, ?_⟩, h.lo, ?_, h.lb, Nat.le_trans hWB t1.size⟩
  · intro j hj
    rcases hat with e | e
    · exact h.rv.no j (by rw [← e]; exact hj)
    · rw [e] at hj; cases hj; have := hb.size; omega
  · intro j hj
    rcases hat with e | e
    · exact h.lv j (by rw [← e]; exact hj)
    · rw [e] at hj; cases hj; have := hb.size; omega
end
end Go.Proofs.Ytlcjiffnmpkndaa.Pl
