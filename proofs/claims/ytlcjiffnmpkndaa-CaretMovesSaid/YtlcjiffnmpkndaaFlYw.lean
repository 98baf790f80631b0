/-
  The reference's attributes' places.
  The reference's fields.
  Contract of the reference's All of layer 15.
-/
import Derived.Test.YtlcjiffnmpkndaaFlUw
import Derived.Test.YtlcjiffnmpkndaaPlOb
import Derived.Test.YtlcjiffnmpkndaaFlK
namespace Go.Proofs.Ytlcjiffnmpkndaa.Pl
open Go.RowKit Go.Shelf Base
set_option linter.unusedVariables false
set_option linter.unusedSimpArgs false

def flatF (xs : List Fd) : List Value := xs.flatMap fun f => [.int .i64 f.s, .int .i64 f.k, .int .u8 f.a]
theorem flatF_snoc (xs : List Fd) (f : Fd) : flatF (xs ++ [f]) = flatF xs ++ [.int .i64 f.s, .int .i64 f.k, .int .u8 f.a] := by simp [flatF]
theorem cell_three_new (w : World) (x y z : Value) (t : TypeId) : ∀ (j : Nat) (u : Value), [x, y, z][j]? = some u → (w.alloc (.cells #[x, y, z] t)).cell? ((⟨w.heap.size, 0, none⟩ : Addr).add j) = some u
  | 0, u, h => by simp at h; subst h; simp [go_sem, Addr.add]
  | 1, u, h => by simp at h; subst h; simp [go_sem, Addr.add]
  | 2, u, h => by simp at h; subst h; simp [go_sem, Addr.add]
  | j + 3, u, h => by simp at h
theorem below_dn (W : World) (n : Nat) : Below W.heap.size W (W.drewN n) := ⟨rfl, rfl, rfl, Nat.le_refl _, fun _ _ => rfl⟩
/-- The reference's plane: its row of cells. -/
structure Rx (W : World) (gx n cap : Nat) (L : List Cl) : Prop where
  row : W.ownsRow 0 58 5 (.slice (some ⟨gx, 0, none⟩) n cap) n (flatC L)
  len : L.length = n
  most : n ≤ 4096
theorem Rx.lt {W : World} {gx n cap : Nat} {L : List Cl} (h : Rx W gx n cap L) : gx < W.heap.size := (h.row.lt gx rfl).2
theorem Rx.below {W W' : World} {gx n cap : Nat} {L : List Cl} (h : Rx W gx n cap L) (t : Below W.heap.size W W') : Rx W' gx n cap L := ⟨own_keep h.row t.size (t.block gx h.lt), h.len, h.most⟩
theorem Rx.five {W : World} {gx n cap : Nat} {L : List Cl} (h : Rx W gx n cap L) {i : Nat} {x : Cl} (hx : L[i]? = some x) : C5 W gx (i * 5) x := by
  have hi : i < L.length := (List.getElem?_eq_some_iff.1 hx).1
  have hl := h.len
  obtain ⟨f0, f1, f2, f3, f4⟩ := flatC_get L i x hx
  exact ⟨(h.row.cellAt _ (by omega)).trans f0, (h.row.cellAt _ (by omega)).trans f1, (h.row.cellAt _ (by omega)).trans f2, (h.row.cellAt _ (by omega)).trans f3, (h.row.cellAt _ (by omega)).trans f4⟩
/-- The reference's plane in a box s of the call's own, and a row that grows. -/
structure StQ (w : World) (s gx n cap : Nat) (r c cur : Int) (L : List Cl) (et : TypeId) (k : Nat) (v : Value) (m : Nat) (xs : List Value) (W : World) : Prop where
  bx : W.heap[s]? = some (.cells #[.int .i64 r, .int .i64 c, .slice (some ⟨gx, 0, none⟩) n cap, .int .i64 cur] 29 (0, 0))
  rx : Rx W gx n cap L
  row : W.ownsRow 0 et k v m xs
  lo : ∀ j, v.ownBlock = some j → w.heap.size ≤ j
  old : Below w.heap.size w W
  lg : gx < w.heap.size
section
variable {w W W' : World} {s gx n cap : Nat} {r c cur : Int} {L : List Cl} {et : TypeId} {k : Nat} {v : Value} {m : Nat} {xs : List Value}
theorem StQ.below (h : StQ w s gx n cap r c cur L et k v m xs W) (t : Below W.heap.size W W') : StQ w s gx n cap r c cur L et k v m xs W' :=
  ⟨(t.block _ (lt_of_block h.bx)).trans h.bx, h.rx.below t, row_turn h.row (S := fun _ => False) (Turn.of_below t) (fun _ _ => id), h.lo, h.old.trans (t.mono h.old.size), h.lg⟩
theorem StQ.q (h : StQ w s gx n cap r c cur L et k v m xs W) : W.cell? ⟨s, 0, none⟩ = some (.int .i64 r) ∧ W.cell? ⟨s, 1, none⟩ = some (.int .i64 c) ∧ W.cell? ⟨s, 2, none⟩ = some (.slice (some ⟨gx, 0, none⟩) n cap) ∧ W.cell? ⟨s, 3, none⟩ = some (.int .i64 cur) :=
  ⟨by simp [World.cell?, h.bx], by simp [World.cell?, h.bx], by simp [World.cell?, h.bx], by simp [World.cell?, h.bx]⟩
/-- Behind an append: s isn't the row's block, as it is another kind's. -/
theorem StQ.app (h : StQ w s gx n cap r c cur L et k v m xs W) (he : 29 ≠ et) {W1 w1 : World} (hb : Below W.heap.size W W1) (hgrow : W1.grownBy w1 v.ownBlock) {v' : Value} {m' : Nat} {ys : List Value} (hown : w1.ownsRow 0 et k v' m' ys) (hat : v'.ownBlock = v.ownBlock ∨ v'.ownBlock = some W1.heap.size) :
    StQ w s gx n cap r c cur L et k v' m' ys w1 := by
  have t1 : Turn (fun j => v.ownBlock = some j) W w1 := (Turn.of_below hb).grown hgrow (fun k hk => .inr hk)
  have hs : ¬ v.ownBlock = some s := by
    intro e
    obtain ⟨cs, e'⟩ := row_typed h.row s e
    rw [h.bx] at e'; cases e'; exact he rfl
  have hg : ¬ v.ownBlock = some gx := fun e => by have := h.lo gx e; have := h.lg; omega
  refine ⟨(t1.block _ (lt_of_block h.bx) hs).trans h.bx, ⟨own_keep h.rx.row t1.size (t1.block gx h.rx.lt hg), h.rx.len, h.rx.most⟩, hown, ?_, h.old.trans (t1.below h.old.size h.lo), h.lg⟩
  intro j hj
  rcases hat with e | e
  · exact h.lo j (by rw [← e]; exact hj)
  · rw [e] at hj; cases hj; have := hb.size; have := h.old.size; omega
end
def startsK (L : List Cl) (i : Nat) : List Int := (allK L (fun _ => L) i).map (·.s)
def startsL (L : List Cl) : List Int := startsK L L.length
theorem startsK_yes {L : List Cl} {i : Nat} (h : (atL L i).st = true) : startsK L (i + 1) = startsK L i ++ [(i : Int)] := by unfold startsK; rw [allK_succ_yes h, List.map_append]; rfl
theorem startsK_no {L : List Cl} {i : Nat} (h : (atL L i).st = false) : startsK L (i + 1) = startsK L i := by unfold startsK; rw [allK_succ_no h]
theorem startsK_le (L : List Cl) (i : Nat) : (startsK L i).length ≤ i := by unfold startsK; rw [List.length_map]; exact allK_most _ _ _
def intsV (X : List Int) : List Value := X.map (Value.int .i64)
theorem empty_row (W : World) (et : TypeId) (k : Nat) : (W.alloc (.cells #[] et)).ownsRow 0 et k (.slice (some ⟨W.heap.size, 0, none⟩) 0 0) 0 [] :=
  World.ownsRow_lit (base := 0) (e := et) (size := k) W #[] 0 (Nat.zero_le _) (by unfold maxLen; omega) (by simp)
set_option maxRecDepth 100000 in
set_option maxHeartbeats 2000000 in
theorem rstarts_any {w : World} {gx n cap : Nat} {L : List Cl} (r c cur : Int) (hx : Rx w gx n cap L) : Calls Try.prog 106 #[xV r c (.slice (some ⟨gx, 0, none⟩) n cap) cur] w fun e W =>
    ∃ v, e = .returned v ∧ W.ownsRow 0 3 1 v (startsL L).length (intsV (startsL L)) ∧ Below w.heap.size w W := by
  obtain ⟨i0, hi, hz0, hz1, hz2⟩ := info_parts info_int'
  obtain ⟨W0, hW0⟩ : ∃ W0, W0 = w.alloc (.cells #[.int .i64 r, .int .i64 c, .slice (some ⟨gx, 0, none⟩) n cap, .int .i64 cur] 29) := ⟨_, rfl⟩
  have hW0s : W0.heap.size = w.heap.size + 1 := by rw [hW0]; simp
  have hq : StQ w w.heap.size gx n cap r c cur L 3 1 (.slice (some ⟨W0.heap.size, 0, none⟩) 0 0) 0 [] (W0.alloc (.cells #[] 3)) := by
    have hb : Below w.heap.size w W0 := by rw [hW0]; exact below_alloc _ _
    refine ⟨?_, (hx.below hb).below (below_alloc _ _), empty_row W0 _ _, ?_, hb.alloc hb.size _, hx.lt⟩
    · rw [Below.heap_alloc _ _ _ (by omega), hW0]; exact heap_alloc_new _ _
    · intro j hj; simp [Value.ownBlock] at hj; omega
  have hn := hx.most
  have hlen := hx.len
  have HQ := Lib.hid hq
  have HW0 := Lib.hid hW0.symm
  clear hW0 hq hx
  unfold xV
  go_enter Try.func106, Try.ntmps106
  go_wp2_with fail
  rw [HW0.out]
  try rw [hW0s] at HQ
  go_loopw [3, 4] (fun p q wr => ∃ (i : Nat) (v : Value), p = v ∧ q = .int .i64 i ∧ i ≤ n ∧ StQ w w.heap.size gx n cap r c cur L 3 1 v (startsK L i).length (intsV (startsK L i)) wr) (fun _ q _ => n - (intOf q).toNat)
  case atStart => exact ⟨0, _, rfl, rfl, Nat.zero_le _, by first | exact HQ.out | (rw [hW0s] at HQ; exact HQ.out)⟩
  case round =>
    obtain ⟨i, v, rfl, rfl, hin, hs⟩ := hrel
    have HS := Lib.hid hs
    obtain ⟨q0, q1, q2, q3⟩ := hs.q
    by_cases hi1 : i < n
    · have hi2 : (i : Int) < (n : Int) := by omega
      obtain ⟨x, hx⟩ : ∃ x, L[i]? = some x := ⟨_, List.getElem?_eq_getElem (by omega)⟩
      have hat := atL_yes hx
      obtain ⟨d0, d1, d2, d3, d4⟩ := hs.rx.five hx
      have hsl := startsK_le L i
      have hown := hs.row
      obtain ⟨xb, xg, xs, xl, xc⟩ := x
      simp only at d0 d1 d2 d3 d4
      cases xs with
      | true =>
        have HY := Lib.hid (startsK_yes (L := L) (i := i) (by rw [hat]))
        clear hs hx hat
        go_wp2_with (at_builtin; refine wpList_append_own_at _ rfl _ _ 44 rfl 0 3 i0 (.int .i64 0) 1 8 Try.underlying44 hi hz0 hz1 hz2 rfl (by decide) _ _ _ rfl (hown.alloc _) ⟨wr.heap.size, 0, none⟩ 1 1 [.int .i64 i] rfl rfl (cell_one_new _ _ _) (by simp [Value.oneCell']) (by unfold maxLen; omega) (by omega) (Nat.zero_le _) ?_; intro v1 w1 hown1 hgrow1 _ hat1)
        have HS1 := Lib.hid (HS.out.app (by decide) (below_alloc _ _) hgrow1 hown1 hat1)
        clear hgrow1 hown1 hat1 hown
        go_roundw
        case rel => exact ⟨i + 1, _, rfl, by go_num, by omega, by rw [HY.out, intsV, List.map_append, List.length_append]; exact HS1.out⟩
        case measure => simp [intOf]; omega
      | false =>
        have HY := Lib.hid (startsK_no (L := L) (i := i) (by rw [hat]))
        clear hs hx hat hown
        go_wp2
        go_roundw
        case rel => exact ⟨i + 1, _, rfl, by go_num, by omega, by rw [HY.out]; exact HS.out⟩
        case measure => simp [intOf]; omega
    · have hi2 : ¬ (i : Int) < (n : Int) := by omega
      have hie : i = L.length := by omega
      clear hs
      go_wp2
      go_ret
      exact ⟨_, rfl, by unfold startsL; rw [← hie]; exact HS.out.row, HS.out.old⟩
end Go.Proofs.Ytlcjiffnmpkndaa.Pl
namespace Go.Proofs.Ytlcjiffnmpkndaa.Pl
open Go.RowKit Go.Shelf Base
set_option linter.unusedVariables false
set_option linter.unusedSimpArgs false

/-- An append of one row behind an own one, as an operation of a drawn region. -/
theorem step_append_own {P : Program} {ops : Array Oper} {o : Oper} {a : Act} {w : World} {K : Act → World → Prop} {Q : Exit → Act → World → Prop} {E : Prop} (hgd : o.guard = Option.none) (s x : Operand) (t : TypeId)
    (ho : o.op = .call { callee := .builtin .append, args := #[s, x], argTypes := #[t, t] })
    (base : Nat) (e : TypeId) (i : TypeInfo) (z : Value) (size bytes : Nat) (ht : P.underlying t = some (.slice e)) (hi : P.info? e = some i) (hz : i.zero = some z)
    (hsize : i.size = size) (hby : i.bytes = bytes) (hzs : z.cells.size = size) (hsz : 0 < size)
    (v : Value) (n : Nat) (xs : List Value) (hs : a.eval s = v) (hown : w.ownsRow base e size v n xs)
    (ad : Addr) (m c : Nat) (news : List Value) (hx : a.eval x = .slice (some ad) m c) (hl : news.length = m * size) (hnews : ∀ j u, news[j]? = some u → w.cell? (ad.add j) = some u) (h1 : ∀ u ∈ news, u.oneCell' = true)
    (h63 : n + m ≤ maxLen) (hbytes : (n + m) * bytes ≤ 140737488355328) (hbase : base ≤ w.heap.size)
    (h : ∀ v' w', w'.ownsRow base e size v' (n + m) (xs ++ news) → w.grownBy w' v.ownBlock → (v'.ownBlock = v.ownBlock ∨ v'.ownBlock = some w.heap.size) → K (a.put o.dst v') w') :
    if Region.wanted o (yielded ops a.tmps) = true then Oper.wp P o a w K Q else E := by
  have hw : Region.wanted o (yielded ops a.tmps) = true := by simp [Region.wanted, hgd]
  rw [if_pos hw]
  obtain ⟨v', w', hr, h2, h3, h4, h5⟩ := run_append_own_at (P := P) w base t o.type e i z size bytes ht hi hz hsize hby hzs hsz v n xs hown ad m c news hl hnews h1 h63 hbytes hbase
  unfold Oper.wp execOp
  simp only [ho, resolve, invoke, builtin, Sem.run_bind, Sem.run_pure, Result.andThen_ok, List.map_toArray, List.map_cons, List.map_nil, hs, hx, hr]
  exact h v' w' h2 h3 h5
/-- A field's length, by the next attribute's place. -/
theorem len_next {L : List Cl} {i : Nat} {f g : Fd} (hf : (allL L)[i]? = some f) (hg : (allL L)[i + 1]? = some g) : f.k = g.s - f.s - 1 := by
  have h := stg L L.length
  obtain ⟨p, p1, p2, rfl⟩ := h.each i f hf
  obtain ⟨q, q1, q2, rfl⟩ := h.each _ g hg
  obtain ⟨h1, h2⟩ := h.next i _ _ hf hg
  rw [begF_s, begF_s] at h1 ⊢
  have ha : aftL L p = q := aft_of (by omega) (by omega) (by omega) (by omega) q2 (.inl ⟨h1, h2⟩)
  show mv L.length (aftL L p) (-1 - p) = _
  unfold mv
  rw [if_neg (by omega), ha, show (q : Int) + (-1 - p) = q - p - 1 by omega]
  exact Int.emod_eq_of_lt (by omega) (by omega)
theorem len_last {L : List Cl} {i : Nat} {f g : Fd} (hf : (allL L)[i]? = some f) (hg : (allL L)[0]? = some g) (hn : (allL L)[i + 1]? = none) : f.k = g.s + L.length - f.s - 1 := by
  have h := stg L L.length
  obtain ⟨p, p1, p2, rfl⟩ := h.each i f hf
  obtain ⟨q, q1, q2, rfl⟩ := h.each _ g hg
  have hb := h.behind i _ hf hn
  have hah := h.ahead _ hg
  rw [begF_s] at hb hah ⊢
  rw [begF_s]
  have hqp : (q : Int) ≤ p := by
    by_cases hpq : (q : Int) ≤ p
    · exact hpq
    · have := hah p (by omega) (by omega)
      rw [p2] at this; cases this
  have ha : aftL L p = q := aft_of (by omega) (by omega) (by omega) (by omega) q2 (.inr ⟨hqp, hb, hah⟩)
  show mv L.length (aftL L p) (-1 - p) = _
  unfold mv
  rw [if_neg (by omega), ha, show (q : Int) + (-1 - p) = (q - p - 1 + L.length) - L.length by omega, Int.sub_emod_right]
  rw [Int.emod_eq_of_lt (by omega) (by omega)]; omega
theorem info_rfd : (Try.prog.info? 99).map (fun i => (i.zero, i.size, i.bytes)) = some (some (.agg #[.int .i64 0, .int .i64 0, .int .u8 0]), 3, 24) := by kernel_rfl
/-- The reference's fields as far as they are laid, beside the row of places. -/
structure AlQ2 (w : World) (s gx n cap : Nat) (r c cur : Int) (L : List Cl) (vl v : Value) (i : Nat) (W : World) : Prop where
  st : StQ w s gx n cap r c cur L 99 3 v i (flatF ((allL L).take i)) W
  ls : W.ownsRow 0 3 1 vl (startsL L).length (intsV (startsL L))
section
variable {w W W' : World} {s gx n cap : Nat} {r c cur : Int} {L : List Cl} {vl v : Value} {i : Nat}
theorem AlQ2.below (h : AlQ2 w s gx n cap r c cur L vl v i W) (t : Below W.heap.size W W') : AlQ2 w s gx n cap r c cur L vl v i W' :=
  ⟨h.st.below t, row_turn h.ls (S := fun _ => False) (Turn.of_below t) (fun _ _ => id)⟩
theorem AlQ2.drew (h : AlQ2 w s gx n cap r c cur L vl v i W) : AlQ2 w s gx n cap r c cur L vl v i W.drew := h.below (below_dn W 1)
theorem AlQ2.app (h : AlQ2 w s gx n cap r c cur L vl v i W) {f : Fd} (hf : (allL L)[i]? = some f) {W1 w1 : World} (hb : Below W.heap.size W W1) (hgrow : W1.grownBy w1 v.ownBlock) {v' : Value} {m' : Nat} {ys : List Value} (hown : w1.ownsRow 0 99 3 v' m' ys) (hm : m' = i + 1) (hy : ys = flatF ((allL L).take i) ++ [.int .i64 f.s, .int .i64 f.k, .int .u8 f.a]) (hat : v'.ownBlock = v.ownBlock ∨ v'.ownBlock = some W1.heap.size) :
    AlQ2 w s gx n cap r c cur L vl v' (i + 1) w1 := by
  have ht : flatF ((allL L).take (i + 1)) = flatF ((allL L).take i) ++ [.int .i64 f.s, .int .i64 f.k, .int .u8 f.a] := by
    obtain ⟨h1, rfl⟩ := List.getElem?_eq_some_iff.1 hf
    rw [List.take_succ_eq_append_getElem h1, flatF_snoc]
  subst hm
  rw [hy, ← ht] at hown
  refine ⟨h.st.app (by decide) hb hgrow hown hat, ?_⟩
  have t1 : Turn (fun j => v.ownBlock = some j) W w1 := (Turn.of_below hb).grown hgrow (fun k hk => .inr hk)
  refine row_turn h.ls t1 (fun j hj e => ?_)
  obtain ⟨cs, e1⟩ := row_typed h.ls j hj
  obtain ⟨cs', e2⟩ := row_typed h.st.row j e
  rw [e1] at e2; cases e2
end
theorem starts_get {L : List Cl} {i : Nat} {f : Fd} (h : (allL L)[i]? = some f) : (intsV (startsL L))[i]? = some (.int .i64 f.s) := by
  unfold intsV startsL startsK
  rw [List.getElem?_map, List.getElem?_map, show allK L (fun _ => L) L.length = allL L from rfl, h]; rfl
theorem starts_len (L : List Cl) : (startsL L).length = (allL L).length := by unfold startsL startsK; rw [List.length_map]; rfl
end Go.Proofs.Ytlcjiffnmpkndaa.Pl
namespace Go.Proofs.Ytlcjiffnmpkndaa.Pl
open Go.RowKit Go.Shelf Base
set_option linter.unusedVariables false
set_option linter.unusedSimpArgs false

theorem rrow_shape {W : World} {e : TypeId} {k n : Nat} {xs : List Value} {v : Value} (h : W.ownsRow 0 e k v n xs) : ∃ a cap, v = .slice a n cap ∧ (0 < n → ∃ gr, a = some ⟨gr, 0, none⟩) := by
  rcases h.2 with ⟨rfl, rfl⟩ | ⟨g, cap, cur, rfl, _⟩
  · exact ⟨none, 0, rfl, fun h => absurd h (by omega)⟩
  · exact ⟨_, cap, rfl, fun _ => ⟨g, rfl⟩⟩
set_option maxRecDepth 100000 in
set_option maxHeartbeats 4000000 in
theorem rall_any {w : World} {gx n cap : Nat} {L : List Cl} (r c cur : Int) (hx : Rx w gx n cap L) (hbo : BoL L) : Calls Try.prog 65 #[xV r c (.slice (some ⟨gx, 0, none⟩) n cap) cur] w fun e W =>
    ∃ v, e = .returned v ∧ W.ownsRow 0 99 3 v (allL L).length (flatF (allL L)) ∧ Below w.heap.size w W := by
  obtain ⟨i0, hi, hz0, hz1, hz2⟩ := info_parts info_rfd
  obtain ⟨W0, hW0⟩ : ∃ W0, W0 = w.alloc (.cells #[.int .i64 r, .int .i64 c, .slice (some ⟨gx, 0, none⟩) n cap, .int .i64 cur] 29) := ⟨_, rfl⟩
  have hW0s : W0.heap.size = w.heap.size + 1 := by rw [hW0]; simp
  have hq : StQ w w.heap.size gx n cap r c cur L 99 3 (.slice (some ⟨w.heap.size + 1, 0, none⟩) 0 0) 0 [] (W0.alloc (.cells #[] 99)) := by
    have hb : Below w.heap.size w W0 := by rw [hW0]; exact below_alloc _ _
    refine ⟨?_, (hx.below hb).below (below_alloc _ _), by rw [← hW0s]; exact empty_row W0 _ _, ?_, hb.alloc hb.size _, hx.lt⟩
    · rw [Below.heap_alloc _ _ _ (by omega), hW0]; exact heap_alloc_new _ _
    · intro j hj; simp [Value.ownBlock] at hj; omega
  have hn := hx.most
  have hlen := hx.len
  have HQ := Lib.hid hq
  have HW0 := Lib.hid hW0.symm
  have HBO := Lib.hid hbo
  have HLE := Lib.hid hlen
  obtain ⟨q0, q1, q2, q3⟩ := hq.q
  obtain ⟨m, hm⟩ : ∃ m, m = (allL L).length := ⟨_, rfl⟩
  have hmn : m ≤ n := by have := allK_most L (fun _ => L) L.length; rw [hm, ← hlen]; exact this
  have HMM := Lib.hid hm
  clear hW0 hq hx hbo hm
  unfold xV
  go_enter Try.func65, Try.ntmps65
  go_wp2_with fail
  rw [HW0.out]
  go_wp2_with (go_at_call 106; go_loud (refine (rstarts_any r c cur HQ.out.rx).mono ?_); intro e w2 hst; go_loud (obtain ⟨vl, he, hls, hb2⟩ := hst); go_loud (rw [he]); go_loud (rw [starts_len, ← HMM.out] at hls); go_loud (obtain ⟨al, capl, hvl, hsl⟩ := rrow_shape hls); go_loud (rw [hvl] at hls ⊢); go_loud (have H2 := Lib.hid (show AlQ2 w w.heap.size gx n cap r c cur L (.slice al m capl) (.slice (some ⟨w.heap.size + 1, 0, none⟩) 0 0) 0 w2 from ⟨HQ.out.below hb2, by rw [starts_len, ← HMM.out]; exact hls⟩)); have HSL := Lib.hid hsl; clear hls hb2 hsl q0 q1 q2 q3 he hvl)
  go_loopw [3, 5] (fun p q wr => ∃ (i : Nat) (v : Value), v = p ∧ q = .int .i64 i ∧ i ≤ m ∧ AlQ2 w w.heap.size gx n cap r c cur L (.slice al m capl) v i wr) (fun _ q _ => m - (intOf q).toNat)
  case atStart => exact ⟨0, _, rfl, rfl, Nat.zero_le _, H2.out⟩
  case round =>
    obtain ⟨i, v, rfl, rfl, hin, hs⟩ := hrel
    have HS := Lib.hid hs
    obtain ⟨q0, q1, q2, q3⟩ := hs.st.q
    by_cases hi1 : i < m
    · have hi2 : (i : Int) < (m : Int) := by omega
      have hm0 : (0 : Int) < (m : Int) := by omega
      obtain ⟨gl, rfl⟩ := HSL.out (by omega)
      have hls := hs.ls
      rw [starts_len, ← HMM.out] at hls
      obtain ⟨f, hf⟩ : ∃ f, (allL L)[i]? = some f := ⟨_, List.getElem?_eq_getElem (by rw [← HMM.out]; exact hi1)⟩
      obtain ⟨g0, hg0⟩ : ∃ g0, (allL L)[0]? = some g0 := ⟨_, List.getElem?_eq_getElem (by rw [← HMM.out]; omega)⟩
      have lI := (hls.cellAt i (by omega)).trans (starts_get hf)
      have l0 := (hls.cellAt 0 (by omega)).trans (starts_get hg0)
      obtain ⟨p, p1, p2, p3⟩ := (stg L L.length).each i f hf
      obtain ⟨p', p1', p2', p3'⟩ := (stg L L.length).each 0 g0 hg0
      have hfs : f.s = p := by rw [p3]; rfl
      have hgs : g0.s = p' := by rw [p3']; rfl
      obtain ⟨x, hx⟩ : ∃ x, L[p]? = some x := ⟨_, List.getElem?_eq_getElem p1⟩
      have hat := atL_yes hx
      have hfa : f.a = x.b % 64 := by rw [p3]; show (atL L p).b % 64 = _; rw [hat]
      have hxb := HBO.out p
      rw [hat] at hxb
      obtain ⟨d0, _⟩ := hs.st.rx.five hx
      have hfk := begF_bd (L := L) (by omega) p
      rw [← p3] at hfk
      obtain ⟨nx0, hnx0⟩ : ∃ nx0, nx0 = g0.s + (n : Int) := ⟨_, rfl⟩
      have hwr0 : IntKind.i64.wrap (g0.s + (n : Int)) = nx0 := by rw [IntWalk.i64_in _ (by omega), hnx0]
      have hpn : (p : Int) < (n : Int) := by omega
      have hp0 : (0 : Int) ≤ (p : Int) := by omega
      have hnext : (∃ g, (allL L)[i + 1]? = some g ∧ i + 1 < m) ∨ ((allL L)[i + 1]? = none ∧ ¬ i + 1 < m) := by
        by_cases h : i + 1 < m
        · exact .inl ⟨_, List.getElem?_eq_getElem (by rw [← HMM.out]; exact h), h⟩
        · exact .inr ⟨List.getElem?_eq_none (by rw [← HMM.out]; omega), h⟩
      have HF := Lib.hid hf
      have HX := Lib.hid hx
      have HLT := Lib.hid (show gl < wr.heap.size from by
        obtain ⟨cs, e⟩ := row_typed hls gl rfl
        exact lt_of_block e)
      have HLG := Lib.hid (show gx < wr.heap.size from hs.st.rx.lt)
      rw [hfs] at lI
      have hrow := hs.st.row
      rcases hnext with ⟨g, hg, hi3⟩ | ⟨hg, hi3⟩
      · have hkn := len_next hf hg
        have lJ := (hls.cellAt (i + 1) (by omega)).trans (starts_get hg)
        obtain ⟨p4, p5, p6, p7⟩ := (stg L L.length).each _ g hg
        have hgs4 : g.s = p4 := by rw [p7]; rfl
        rw [hgs4] at hkn lJ
        have hi4 : (i : Int) + 1 < (m : Int) := by omega
        have hs1 : IntKind.i64.wrap ((p4 : Int) - p) = p4 - p := IntWalk.i64_in _ (by omega)
        have hs2 : IntKind.i64.wrap ((p4 : Int) - p - 1) = f.k := by rw [IntWalk.i64_in _ (by omega), hkn, hfs]
        obtain ⟨fs, fk, fa⟩ := f
        simp only at hfs hfa hfk hkn hs2
        subst hfs
        obtain ⟨xb, xg, xs, xl, xc⟩ := x
        simp only at hfa hxb d0
        have ht1 : xb.tmod 64 = fa := by rw [hfa]; exact Int.tmod_eq_emod_of_nonneg (by omega)
        have hfa0 : 0 ≤ fa ∧ fa < 64 := by omega
        have ht2 : IntKind.u8.wrap fa = fa := by simp [IntKind.wrap, IntKind.bits]; omega
        have l0' := l0
        rw [hgs] at l0'
        rw [hgs] at hwr0
        have HS3 := Lib.hid (show ∀ (i' : Nat) (v' : Value) (X : World), AlQ2 w w.heap.size gx n cap r c cur L (.slice (some ⟨gl, 0, none⟩) m capl) v' i' X → X.cell? ⟨w.heap.size, 2, none⟩ = some (.slice (some ⟨gx, 0, none⟩) n cap) ∧ X.cell? ⟨gl, i, none⟩ = some (.int .i64 p) ∧ X.cell? ⟨gx, p * 5, none⟩ = some (.int .u8 xb) from fun i' v' X h => ⟨h.st.q.2.2.1, by have e := h.ls; rw [starts_len, ← HMM.out] at e; exact (e.cellAt i (by omega)).trans (starts_get HF.out), (h.st.rx.five HX.out).1⟩)
        clear hs hf hg0 hg p2 p3 p2' p3' hx hat hkn hls hnx0 HBO l0 p6 p7 hgs4
        have hfa1 := hfa0.1
        have hfa2 := hfa0.2
        clear hfa hfk hxb hgs hfa0
        go_wp2_with fail
        go_quiet (fail)
        go_wp2_with fail
        obtain ⟨w3, hw3⟩ : ∃ w3, w3 = wr.drewN nq := ⟨_, rfl⟩
        rw [← hw3]
        have H3 := Lib.hid (show AlQ2 w w.heap.size gx n cap r c cur L (.slice (some ⟨gl, 0, none⟩) m capl) v i w3 from by rw [hw3]; exact HS.out.below (below_dn wr nq))
        have hb3 : Below wr.heap.size wr w3 := by rw [hw3]; exact below_dn wr nq
        clear hw3
        obtain ⟨q0, q1, q2, q3⟩ := H3.out.st.q
        replace lI := (hb3.cell (HLT.out)).trans lI
        replace d0 := (hb3.cell (HLG.out)).trans d0
        refine wp_region_held_drew (S := fun X => X.cell? ⟨w.heap.size, 2, none⟩ = some (.slice (some ⟨gx, 0, none⟩) n cap) ∧ X.cell? ⟨gl, i, none⟩ = some (.int .i64 p) ∧ X.cell? ⟨gx, p * 5, none⟩ = some (.int .u8 xb)) (by kernel_rfl) (HS3.out _ _ _ H3.out.drew) (fun hHeld => ?_)
        refine wpAnyH_take (i := 0) (oi := { dst := some 33, op := Op.move (Operand.tmp 3), type := 102, pos := "ref.go:36", after := #[], guard := none }) (v := ?_) rfl (by kernel_rfl) (by kernel_rfl) (by kernel_rfl) (fun _ _ _ h => h) (Or.inl ⟨by rfl, ?_⟩) (by assumption) ?_
        rotate_left
        focus (intro w hSw; (try dsimp only at hSw); go_simp; try (with_reducible rfl))
        try simp only [Act.put, List.setIfInBounds_toArray, List.set_cons_zero, List.set_cons_succ]
        refine wpAnyH_take (i := 1) (oi := { dst := some 34, op := Op.move (Operand.tmp 4), type := 44, pos := "ref.go:36", after := #[], guard := none }) (v := ?_) rfl (by kernel_rfl) (by kernel_rfl) (by kernel_rfl) (fun _ _ _ h => h) (Or.inl ⟨by rfl, ?_⟩) (by assumption) ?_
        rotate_left
        focus (intro w hSw; (try dsimp only at hSw); go_simp; try (with_reducible rfl))
        try simp only [Act.put, List.setIfInBounds_toArray, List.set_cons_zero, List.set_cons_succ]
        refine wpAnyH_take (i := 2) (oi := { dst := some 35, op := Op.move (Operand.tmp 5), type := 3, pos := "ref.go:36", after := #[], guard := none }) (v := ?_) rfl (by kernel_rfl) (by kernel_rfl) (by kernel_rfl) (fun _ _ _ h => h) (Or.inl ⟨by rfl, ?_⟩) (by assumption) ?_
        rotate_left
        focus (intro w hSw; (try dsimp only at hSw); go_simp; try (with_reducible rfl))
        try simp only [Act.put, List.setIfInBounds_toArray, List.set_cons_zero, List.set_cons_succ]
        refine wpAnyH_take (i := 3) (oi := { dst := some 36, op := Op.indexAddr 44 (Operand.tmp 34) (Operand.tmp 35), type := 0, pos := "ref.go:36", after := #[{ on := 1, ground := Ground.data }, { on := 2, ground := Ground.data }], guard := none }) (v := ?_) rfl (by kernel_rfl) (by kernel_rfl) (by kernel_rfl) (fun _ _ _ h => h) (Or.inl ⟨by rfl, ?_⟩) (by assumption) ?_
        rotate_left
        focus (intro w hSw; (try dsimp only at hSw); go_simp; try (with_reducible rfl))
        try simp only [Act.put, List.setIfInBounds_toArray, List.set_cons_zero, List.set_cons_succ]
        refine wpAnyH_take (i := 4) (oi := { dst := some 37, op := Op.load 3 (Operand.tmp 36), type := 3, pos := "ref.go:36", after := #[{ on := 3, ground := Ground.data }], guard := none }) (v := ?_) rfl (by kernel_rfl) (by kernel_rfl) (by kernel_rfl) (fun _ _ _ h => h) (Or.inl ⟨by rfl, ?_⟩) (by assumption) ?_
        rotate_left
        focus (intro w hSw; (try dsimp only at hSw); go_simp; try (with_reducible rfl))
        try simp only [Act.put, List.setIfInBounds_toArray, List.set_cons_zero, List.set_cons_succ]
        refine wpAnyH_take (i := 5) (oi := { dst := some 38, op := Op.move (Operand.tmp 6), type := 3, pos := "ref.go:36", after := #[], guard := none }) (v := ?_) rfl (by kernel_rfl) (by kernel_rfl) (by kernel_rfl) (fun _ _ _ h => h) (Or.inl ⟨by rfl, ?_⟩) (by assumption) ?_
        rotate_left
        focus (intro w hSw; (try dsimp only at hSw); go_simp; try (with_reducible rfl))
        try simp only [Act.put, List.setIfInBounds_toArray, List.set_cons_zero, List.set_cons_succ]
        refine wpAnyH_take (i := 6) (oi := { dst := some 39, op := Op.move (Operand.tmp 4), type := 44, pos := "ref.go:36", after := #[], guard := none }) (v := ?_) rfl (by kernel_rfl) (by kernel_rfl) (by kernel_rfl) (fun _ _ _ h => h) (Or.inl ⟨by rfl, ?_⟩) (by assumption) ?_
        rotate_left
        focus (intro w hSw; (try dsimp only at hSw); go_simp; try (with_reducible rfl))
        try simp only [Act.put, List.setIfInBounds_toArray, List.set_cons_zero, List.set_cons_succ]
        refine wpAnyH_take (i := 7) (oi := { dst := some 40, op := Op.move (Operand.tmp 5), type := 3, pos := "ref.go:36", after := #[], guard := none }) (v := ?_) rfl (by kernel_rfl) (by kernel_rfl) (by kernel_rfl) (fun _ _ _ h => h) (Or.inl ⟨by rfl, ?_⟩) (by assumption) ?_
        rotate_left
        focus (intro w hSw; (try dsimp only at hSw); go_simp; try (with_reducible rfl))
        try simp only [Act.put, List.setIfInBounds_toArray, List.set_cons_zero, List.set_cons_succ]
        refine wpAnyH_take (i := 8) (oi := { dst := some 41, op := Op.indexAddr 44 (Operand.tmp 39) (Operand.tmp 40), type := 0, pos := "ref.go:36", after := #[{ on := 6, ground := Ground.data }, { on := 7, ground := Ground.data }], guard := none }) (v := ?_) rfl (by kernel_rfl) (by kernel_rfl) (by kernel_rfl) (fun _ _ _ h => h) (Or.inl ⟨by rfl, ?_⟩) (by assumption) ?_
        rotate_left
        focus (intro w hSw; (try dsimp only at hSw); go_simp; try (with_reducible rfl))
        try simp only [Act.put, List.setIfInBounds_toArray, List.set_cons_zero, List.set_cons_succ]
        refine wpAnyH_take (i := 9) (oi := { dst := some 42, op := Op.load 3 (Operand.tmp 41), type := 3, pos := "ref.go:36", after := #[{ on := 8, ground := Ground.data }], guard := none }) (v := ?_) rfl (by kernel_rfl) (by kernel_rfl) (by kernel_rfl) (fun _ _ _ h => h) (Or.inl ⟨by rfl, ?_⟩) (by assumption) ?_
        rotate_left
        focus (intro w hSw; (try dsimp only at hSw); go_simp; try (with_reducible rfl))
        try simp only [Act.put, List.setIfInBounds_toArray, List.set_cons_zero, List.set_cons_succ]
        refine wpAnyH_take (i := 10) (oi := { dst := some 43, op := Op.binOp BinOp.sub 3 (Operand.tmp 38) (Operand.tmp 42) 3, type := 3, pos := "ref.go:36", after := #[{ on := 5, ground := Ground.data }, { on := 9, ground := Ground.data }], guard := none }) (v := ?_) rfl (by kernel_rfl) (by kernel_rfl) (by kernel_rfl) (fun _ _ _ h => h) (Or.inl ⟨by rfl, ?_⟩) (by assumption) ?_
        rotate_left
        focus (intro w hSw; (try dsimp only at hSw); go_simp; try (with_reducible rfl))
        try simp only [Act.put, List.setIfInBounds_toArray, List.set_cons_zero, List.set_cons_succ]
        refine wpAnyH_take (i := 11) (oi := { dst := some 44, op := Op.binOp BinOp.sub 3 (Operand.tmp 43) (Operand.const (Value.int IntKind.i64 1)) 3, type := 3, pos := "ref.go:36", after := #[{ on := 10, ground := Ground.data }], guard := none }) (v := ?_) rfl (by kernel_rfl) (by kernel_rfl) (by kernel_rfl) (fun _ _ _ h => h) (Or.inl ⟨by rfl, ?_⟩) (by assumption) ?_
        rotate_left
        focus (intro w hSw; (try dsimp only at hSw); go_simp; try (with_reducible rfl))
        try simp only [Act.put, List.setIfInBounds_toArray, List.set_cons_zero, List.set_cons_succ]
        refine wpAnyH_take (i := 12) (oi := { dst := some 45, op := Op.fieldAddr 29 (Operand.tmp 1) 1, type := 0, pos := "ref.go:36", after := #[], guard := none }) (v := ?_) rfl (by kernel_rfl) (by kernel_rfl) (by kernel_rfl) (fun _ _ _ h => h) (Or.inl ⟨by rfl, ?_⟩) (by assumption) ?_
        rotate_left
        focus (intro w hSw; (try dsimp only at hSw); go_simp; try (with_reducible rfl))
        try simp only [Act.put, List.setIfInBounds_toArray, List.set_cons_zero, List.set_cons_succ]
        refine wpAnyH_take (i := 13) (oi := { dst := some 46, op := Op.load 24 (Operand.tmp 45), type := 24, pos := "ref.go:36", after := #[{ on := 12, ground := Ground.data }], guard := none }) (v := ?_) rfl (by kernel_rfl) (by kernel_rfl) (by kernel_rfl) (fun _ _ _ h => h) (Or.inl ⟨by rfl, ?_⟩) (by assumption) ?_
        rotate_left
        focus (intro w hSw; (try dsimp only at hSw); go_simp; try (with_reducible rfl))
        try simp only [Act.put, List.setIfInBounds_toArray, List.set_cons_zero, List.set_cons_succ]
        refine wpAnyH_take (i := 14) (oi := { dst := some 47, op := Op.move (Operand.tmp 4), type := 44, pos := "ref.go:36", after := #[], guard := none }) (v := ?_) rfl (by kernel_rfl) (by kernel_rfl) (by kernel_rfl) (fun _ _ _ h => h) (Or.inl ⟨by rfl, ?_⟩) (by assumption) ?_
        rotate_left
        focus (intro w hSw; (try dsimp only at hSw); go_simp; try (with_reducible rfl))
        try simp only [Act.put, List.setIfInBounds_toArray, List.set_cons_zero, List.set_cons_succ]
        refine wpAnyH_take (i := 15) (oi := { dst := some 48, op := Op.move (Operand.tmp 5), type := 3, pos := "ref.go:36", after := #[], guard := none }) (v := ?_) rfl (by kernel_rfl) (by kernel_rfl) (by kernel_rfl) (fun _ _ _ h => h) (Or.inl ⟨by rfl, ?_⟩) (by assumption) ?_
        rotate_left
        focus (intro w hSw; (try dsimp only at hSw); go_simp; try (with_reducible rfl))
        try simp only [Act.put, List.setIfInBounds_toArray, List.set_cons_zero, List.set_cons_succ]
        refine wpAnyH_take (i := 16) (oi := { dst := some 49, op := Op.indexAddr 44 (Operand.tmp 47) (Operand.tmp 48), type := 0, pos := "ref.go:36", after := #[{ on := 14, ground := Ground.data }, { on := 15, ground := Ground.data }], guard := none }) (v := ?_) rfl (by kernel_rfl) (by kernel_rfl) (by kernel_rfl) (fun _ _ _ h => h) (Or.inl ⟨by rfl, ?_⟩) (by assumption) ?_
        rotate_left
        focus (intro w hSw; (try dsimp only at hSw); go_simp; try (with_reducible rfl))
        try simp only [Act.put, List.setIfInBounds_toArray, List.set_cons_zero, List.set_cons_succ]
        refine wpAnyH_take (i := 17) (oi := { dst := some 50, op := Op.load 3 (Operand.tmp 49), type := 3, pos := "ref.go:36", after := #[{ on := 16, ground := Ground.data }], guard := none }) (v := ?_) rfl (by kernel_rfl) (by kernel_rfl) (by kernel_rfl) (fun _ _ _ h => h) (Or.inl ⟨by rfl, ?_⟩) (by assumption) ?_
        rotate_left
        focus (intro w hSw; (try dsimp only at hSw); go_simp; try (with_reducible rfl))
        try simp only [Act.put, List.setIfInBounds_toArray, List.set_cons_zero, List.set_cons_succ]
        refine wpAnyH_take (i := 18) (oi := { dst := some 51, op := Op.indexAddr 24 (Operand.tmp 46) (Operand.tmp 50), type := 0, pos := "ref.go:36", after := #[{ on := 13, ground := Ground.data }, { on := 17, ground := Ground.data }], guard := none }) (v := ?_) rfl (by kernel_rfl) (by kernel_rfl) (by kernel_rfl) (fun _ _ _ h => h) (Or.inl ⟨by rfl, ?_⟩) (by assumption) ?_
        rotate_left
        focus (intro w hSw; (try dsimp only at hSw); go_simp; try (with_reducible rfl))
        try simp only [Act.put, List.setIfInBounds_toArray, List.set_cons_zero, List.set_cons_succ]
        refine wpAnyH_take (i := 19) (oi := { dst := some 52, op := Op.fieldAddr 58 (Operand.tmp 51) 0, type := 0, pos := "ref.go:36", after := #[{ on := 18, ground := Ground.data }], guard := none }) (v := ?_) rfl (by kernel_rfl) (by kernel_rfl) (by kernel_rfl) (fun _ _ _ h => h) (Or.inl ⟨by rfl, ?_⟩) (by assumption) ?_
        rotate_left
        focus (intro w hSw; (try dsimp only at hSw); go_simp; try (with_reducible rfl))
        try simp only [Act.put, List.setIfInBounds_toArray, List.set_cons_zero, List.set_cons_succ]
        refine wpAnyH_take (i := 20) (oi := { dst := some 53, op := Op.load 5 (Operand.tmp 52), type := 5, pos := "ref.go:36", after := #[{ on := 19, ground := Ground.data }], guard := none }) (v := ?_) rfl (by kernel_rfl) (by kernel_rfl) (by kernel_rfl) (fun _ _ _ h => h) (Or.inl ⟨by rfl, ?_⟩) (by assumption) ?_
        rotate_left
        focus (intro w hSw; (try dsimp only at hSw); go_simp; try (with_reducible rfl))
        try simp only [Act.put, List.setIfInBounds_toArray, List.set_cons_zero, List.set_cons_succ]
        refine wpAnyH_take (i := 21) (oi := { dst := some 54, op := Op.binOp BinOp.rem 5 (Operand.tmp 53) (Operand.const (Value.int IntKind.u8 64)) 5, type := 5, pos := "ref.go:36", after := #[{ on := 20, ground := Ground.data }], guard := none }) (v := ?_) rfl (by kernel_rfl) (by kernel_rfl) (by kernel_rfl) (fun _ _ _ h => h) (Or.inl ⟨by rfl, ?_⟩) (by assumption) ?_
        rotate_left
        focus (intro w hSw; (try dsimp only at hSw); go_simp; try (with_reducible rfl))
        try simp only [Act.put, List.setIfInBounds_toArray, List.set_cons_zero, List.set_cons_succ]
        refine wpAnyH_take (i := 22) (oi := { dst := some 55, op := Op.build 99 #[(0, Operand.tmp 37), (1, Operand.tmp 44), (2, Operand.tmp 54)], type := 99, pos := "ref.go:36", after := #[{ on := 4, ground := Ground.data }, { on := 11, ground := Ground.data }, { on := 21, ground := Ground.data }], guard := none }) (v := ?_) rfl (by kernel_rfl) (by kernel_rfl) (by kernel_rfl) (fun _ _ _ h => h) (Or.inl ⟨by rfl, ?_⟩) (by assumption) ?_
        rotate_left
        focus (intro w hSw; (try dsimp only at hSw); go_simp; try (with_reducible rfl))
        try simp only [Act.put, List.setIfInBounds_toArray, List.set_cons_zero, List.set_cons_succ]
        refine wpAnyH_ready (rs := [23]) (by kernel_rfl) (by simp) (AllReadyH.cons (o := { dst := some 56, op := Op.buildSlice 102 1 #[(0, Operand.tmp 55)], type := 102, pos := "ref.go:36", after := #[{ on := 22, ground := Ground.data }], guard := none }) rfl (fun K hK => ?_) AllReadyH.nil)
        go_simp
        refine hK.out _ _ (HS3.out _ _ _ (H3.out.drew.below (below_alloc _ _))) (fun hHeld => ?_)
        clear hK K
        try simp only [Act.put, List.setIfInBounds_toArray, List.set_cons_zero, List.set_cons_succ]
        refine wpAnyH_ready (rs := [24]) (by kernel_rfl) (by simp) (AllReadyH.cons (o := { dst := some 57, op := Op.call { callee := Callee.builtin Builtin.append, args := #[Operand.tmp 33, Operand.tmp 56], argTypes := #[102, 102] }, type := 102, pos := "ref.go:36", after := #[{ on := 0, ground := Ground.data }, { on := 23, ground := Ground.data }], guard := none }) rfl (fun K hK => ?_) AllReadyH.nil)
        refine step_append_own rfl _ _ _ rfl 0 99 i0 (.agg #[.int .i64 0, .int .i64 0, .int .u8 0]) 3 24 Try.underlying102 hi hz0 hz1 hz2 rfl (by decide) _ _ _ rfl (H3.out.drew.st.row.alloc _) ⟨w3.drew.heap.size, 0, none⟩ 1 1 [.int .i64 p, .int .i64 fk, .int .u8 fa] rfl rfl (cell_three_new _ _ _ _ _) (by simp [Value.oneCell']) (by unfold maxLen; omega) (by omega) (Nat.zero_le _) ?_
        intro v1 w1 hown1 hgrow1 hat1
        have hR9 := H3.out.drew.app HF.out (below_alloc _ _) hgrow1 hown1 rfl rfl hat1
        have HR9 := Lib.hid hR9
        clear hown1 hgrow1 hat1 hR9
        refine hK.out _ _ (HS3.out _ _ _ HR9.out) (fun hHeld => ?_)
        clear hK K
        try simp only [Act.put, List.setIfInBounds_toArray, List.set_cons_zero, List.set_cons_succ]
        refine wpAnyH_take (i := 25) (oi := { dst := some 3, op := Op.assign (Operand.tmp 57), type := 102, pos := "ref.go:36", after := #[{ on := 24, ground := Ground.data }, { on := 24, ground := Ground.chain }, { on := 0, ground := Ground.phase }, { on := 1, ground := Ground.phase }, { on := 2, ground := Ground.phase }, { on := 3, ground := Ground.phase }, { on := 4, ground := Ground.phase }, { on := 5, ground := Ground.phase }, { on := 6, ground := Ground.phase }, { on := 7, ground := Ground.phase }, { on := 8, ground := Ground.phase }, { on := 9, ground := Ground.phase }, { on := 10, ground := Ground.phase }, { on := 11, ground := Ground.phase }, { on := 12, ground := Ground.phase }, { on := 13, ground := Ground.phase }, { on := 14, ground := Ground.phase }, { on := 15, ground := Ground.phase }, { on := 16, ground := Ground.phase }, { on := 17, ground := Ground.phase }, { on := 18, ground := Ground.phase }, { on := 19, ground := Ground.phase }, { on := 20, ground := Ground.phase }, { on := 21, ground := Ground.phase }, { on := 22, ground := Ground.phase }, { on := 23, ground := Ground.phase }, { on := 24, ground := Ground.phase }], guard := none }) (v := ?_) rfl (by kernel_rfl) (by kernel_rfl) (by kernel_rfl) (fun _ _ _ h => h) (Or.inl ⟨by rfl, ?_⟩) (by assumption) ?_
        rotate_left
        focus (intro w hSw; (try dsimp only at hSw); go_simp; try (with_reducible rfl))
        try simp only [Act.put, List.setIfInBounds_toArray, List.set_cons_zero, List.set_cons_succ]
        refine wpAnyH_done (by kernel_rfl) ?_ _
        go_wp2
        go_roundw
        case rel => exact ⟨i + 1, _, rfl, by go_num, by omega, HR9.out⟩
        case measure => simp [intOf]; omega
      · have hkn := len_last hf hg0 hg
        have hi4 : ¬ (i : Int) + 1 < (m : Int) := by omega
        have hs1 : IntKind.i64.wrap (nx0 - p) = nx0 - p := IntWalk.i64_in _ (by omega)
        have hs2 : IntKind.i64.wrap (nx0 - p - 1) = f.k := by rw [IntWalk.i64_in _ (by omega), hkn, hfs, hnx0]; omega
        obtain ⟨fs, fk, fa⟩ := f
        simp only at hfs hfa hfk hkn hs2
        subst hfs
        obtain ⟨xb, xg, xs, xl, xc⟩ := x
        simp only at hfa hxb d0
        have ht1 : xb.tmod 64 = fa := by rw [hfa]; exact Int.tmod_eq_emod_of_nonneg (by omega)
        have hfa0 : 0 ≤ fa ∧ fa < 64 := by omega
        have ht2 : IntKind.u8.wrap fa = fa := by simp [IntKind.wrap, IntKind.bits]; omega
        have l0' := l0
        rw [hgs] at l0'
        rw [hgs] at hwr0
        have HS3 := Lib.hid (show ∀ (i' : Nat) (v' : Value) (X : World), AlQ2 w w.heap.size gx n cap r c cur L (.slice (some ⟨gl, 0, none⟩) m capl) v' i' X → X.cell? ⟨w.heap.size, 2, none⟩ = some (.slice (some ⟨gx, 0, none⟩) n cap) ∧ X.cell? ⟨gl, i, none⟩ = some (.int .i64 p) ∧ X.cell? ⟨gx, p * 5, none⟩ = some (.int .u8 xb) from fun i' v' X h => ⟨h.st.q.2.2.1, by have e := h.ls; rw [starts_len, ← HMM.out] at e; exact (e.cellAt i (by omega)).trans (starts_get HF.out), (h.st.rx.five HX.out).1⟩)
        clear hs hf hg0 hg p2 p3 p2' p3' hx hat hkn hls hnx0 HBO l0
        have hfa1 := hfa0.1
        have hfa2 := hfa0.2
        clear hfa hfk hxb hgs hfa0
        go_wp2_with fail
        go_quiet (fail)
        go_wp2_with fail
        obtain ⟨w3, hw3⟩ : ∃ w3, w3 = wr.drewN nq := ⟨_, rfl⟩
        rw [← hw3]
        have H3 := Lib.hid (show AlQ2 w w.heap.size gx n cap r c cur L (.slice (some ⟨gl, 0, none⟩) m capl) v i w3 from by rw [hw3]; exact HS.out.below (below_dn wr nq))
        have hb3 : Below wr.heap.size wr w3 := by rw [hw3]; exact below_dn wr nq
        clear hw3
        obtain ⟨q0, q1, q2, q3⟩ := H3.out.st.q
        replace lI := (hb3.cell (HLT.out)).trans lI
        replace d0 := (hb3.cell (HLG.out)).trans d0
        refine wp_region_held_drew (S := fun X => X.cell? ⟨w.heap.size, 2, none⟩ = some (.slice (some ⟨gx, 0, none⟩) n cap) ∧ X.cell? ⟨gl, i, none⟩ = some (.int .i64 p) ∧ X.cell? ⟨gx, p * 5, none⟩ = some (.int .u8 xb)) (by kernel_rfl) (HS3.out _ _ _ H3.out.drew) (fun hHeld => ?_)
        refine wpAnyH_take (i := 0) (oi := { dst := some 33, op := Op.move (Operand.tmp 3), type := 102, pos := "ref.go:36", after := #[], guard := none }) (v := ?_) rfl (by kernel_rfl) (by kernel_rfl) (by kernel_rfl) (fun _ _ _ h => h) (Or.inl ⟨by rfl, ?_⟩) (by assumption) ?_
        rotate_left
        focus (intro w hSw; (try dsimp only at hSw); go_simp; try (with_reducible rfl))
        try simp only [Act.put, List.setIfInBounds_toArray, List.set_cons_zero, List.set_cons_succ]
        refine wpAnyH_take (i := 1) (oi := { dst := some 34, op := Op.move (Operand.tmp 4), type := 44, pos := "ref.go:36", after := #[], guard := none }) (v := ?_) rfl (by kernel_rfl) (by kernel_rfl) (by kernel_rfl) (fun _ _ _ h => h) (Or.inl ⟨by rfl, ?_⟩) (by assumption) ?_
        rotate_left
        focus (intro w hSw; (try dsimp only at hSw); go_simp; try (with_reducible rfl))
        try simp only [Act.put, List.setIfInBounds_toArray, List.set_cons_zero, List.set_cons_succ]
        refine wpAnyH_take (i := 2) (oi := { dst := some 35, op := Op.move (Operand.tmp 5), type := 3, pos := "ref.go:36", after := #[], guard := none }) (v := ?_) rfl (by kernel_rfl) (by kernel_rfl) (by kernel_rfl) (fun _ _ _ h => h) (Or.inl ⟨by rfl, ?_⟩) (by assumption) ?_
        rotate_left
        focus (intro w hSw; (try dsimp only at hSw); go_simp; try (with_reducible rfl))
        try simp only [Act.put, List.setIfInBounds_toArray, List.set_cons_zero, List.set_cons_succ]
        refine wpAnyH_take (i := 3) (oi := { dst := some 36, op := Op.indexAddr 44 (Operand.tmp 34) (Operand.tmp 35), type := 0, pos := "ref.go:36", after := #[{ on := 1, ground := Ground.data }, { on := 2, ground := Ground.data }], guard := none }) (v := ?_) rfl (by kernel_rfl) (by kernel_rfl) (by kernel_rfl) (fun _ _ _ h => h) (Or.inl ⟨by rfl, ?_⟩) (by assumption) ?_
        rotate_left
        focus (intro w hSw; (try dsimp only at hSw); go_simp; try (with_reducible rfl))
        try simp only [Act.put, List.setIfInBounds_toArray, List.set_cons_zero, List.set_cons_succ]
        refine wpAnyH_take (i := 4) (oi := { dst := some 37, op := Op.load 3 (Operand.tmp 36), type := 3, pos := "ref.go:36", after := #[{ on := 3, ground := Ground.data }], guard := none }) (v := ?_) rfl (by kernel_rfl) (by kernel_rfl) (by kernel_rfl) (fun _ _ _ h => h) (Or.inl ⟨by rfl, ?_⟩) (by assumption) ?_
        rotate_left
        focus (intro w hSw; (try dsimp only at hSw); go_simp; try (with_reducible rfl))
        try simp only [Act.put, List.setIfInBounds_toArray, List.set_cons_zero, List.set_cons_succ]
        refine wpAnyH_take (i := 5) (oi := { dst := some 38, op := Op.move (Operand.tmp 6), type := 3, pos := "ref.go:36", after := #[], guard := none }) (v := ?_) rfl (by kernel_rfl) (by kernel_rfl) (by kernel_rfl) (fun _ _ _ h => h) (Or.inl ⟨by rfl, ?_⟩) (by assumption) ?_
        rotate_left
        focus (intro w hSw; (try dsimp only at hSw); go_simp; try (with_reducible rfl))
        try simp only [Act.put, List.setIfInBounds_toArray, List.set_cons_zero, List.set_cons_succ]
        refine wpAnyH_take (i := 6) (oi := { dst := some 39, op := Op.move (Operand.tmp 4), type := 44, pos := "ref.go:36", after := #[], guard := none }) (v := ?_) rfl (by kernel_rfl) (by kernel_rfl) (by kernel_rfl) (fun _ _ _ h => h) (Or.inl ⟨by rfl, ?_⟩) (by assumption) ?_
        rotate_left
        focus (intro w hSw; (try dsimp only at hSw); go_simp; try (with_reducible rfl))
        try simp only [Act.put, List.setIfInBounds_toArray, List.set_cons_zero, List.set_cons_succ]
        refine wpAnyH_take (i := 7) (oi := { dst := some 40, op := Op.move (Operand.tmp 5), type := 3, pos := "ref.go:36", after := #[], guard := none }) (v := ?_) rfl (by kernel_rfl) (by kernel_rfl) (by kernel_rfl) (fun _ _ _ h => h) (Or.inl ⟨by rfl, ?_⟩) (by assumption) ?_
        rotate_left
        focus (intro w hSw; (try dsimp only at hSw); go_simp; try (with_reducible rfl))
        try simp only [Act.put, List.setIfInBounds_toArray, List.set_cons_zero, List.set_cons_succ]
        refine wpAnyH_take (i := 8) (oi := { dst := some 41, op := Op.indexAddr 44 (Operand.tmp 39) (Operand.tmp 40), type := 0, pos := "ref.go:36", after := #[{ on := 6, ground := Ground.data }, { on := 7, ground := Ground.data }], guard := none }) (v := ?_) rfl (by kernel_rfl) (by kernel_rfl) (by kernel_rfl) (fun _ _ _ h => h) (Or.inl ⟨by rfl, ?_⟩) (by assumption) ?_
        rotate_left
        focus (intro w hSw; (try dsimp only at hSw); go_simp; try (with_reducible rfl))
        try simp only [Act.put, List.setIfInBounds_toArray, List.set_cons_zero, List.set_cons_succ]
        refine wpAnyH_take (i := 9) (oi := { dst := some 42, op := Op.load 3 (Operand.tmp 41), type := 3, pos := "ref.go:36", after := #[{ on := 8, ground := Ground.data }], guard := none }) (v := ?_) rfl (by kernel_rfl) (by kernel_rfl) (by kernel_rfl) (fun _ _ _ h => h) (Or.inl ⟨by rfl, ?_⟩) (by assumption) ?_
        rotate_left
        focus (intro w hSw; (try dsimp only at hSw); go_simp; try (with_reducible rfl))
        try simp only [Act.put, List.setIfInBounds_toArray, List.set_cons_zero, List.set_cons_succ]
        refine wpAnyH_take (i := 10) (oi := { dst := some 43, op := Op.binOp BinOp.sub 3 (Operand.tmp 38) (Operand.tmp 42) 3, type := 3, pos := "ref.go:36", after := #[{ on := 5, ground := Ground.data }, { on := 9, ground := Ground.data }], guard := none }) (v := ?_) rfl (by kernel_rfl) (by kernel_rfl) (by kernel_rfl) (fun _ _ _ h => h) (Or.inl ⟨by rfl, ?_⟩) (by assumption) ?_
        rotate_left
        focus (intro w hSw; (try dsimp only at hSw); go_simp; try (with_reducible rfl))
        try simp only [Act.put, List.setIfInBounds_toArray, List.set_cons_zero, List.set_cons_succ]
        refine wpAnyH_take (i := 11) (oi := { dst := some 44, op := Op.binOp BinOp.sub 3 (Operand.tmp 43) (Operand.const (Value.int IntKind.i64 1)) 3, type := 3, pos := "ref.go:36", after := #[{ on := 10, ground := Ground.data }], guard := none }) (v := ?_) rfl (by kernel_rfl) (by kernel_rfl) (by kernel_rfl) (fun _ _ _ h => h) (Or.inl ⟨by rfl, ?_⟩) (by assumption) ?_
        rotate_left
        focus (intro w hSw; (try dsimp only at hSw); go_simp; try (with_reducible rfl))
        try simp only [Act.put, List.setIfInBounds_toArray, List.set_cons_zero, List.set_cons_succ]
        refine wpAnyH_take (i := 12) (oi := { dst := some 45, op := Op.fieldAddr 29 (Operand.tmp 1) 1, type := 0, pos := "ref.go:36", after := #[], guard := none }) (v := ?_) rfl (by kernel_rfl) (by kernel_rfl) (by kernel_rfl) (fun _ _ _ h => h) (Or.inl ⟨by rfl, ?_⟩) (by assumption) ?_
        rotate_left
        focus (intro w hSw; (try dsimp only at hSw); go_simp; try (with_reducible rfl))
        try simp only [Act.put, List.setIfInBounds_toArray, List.set_cons_zero, List.set_cons_succ]
        refine wpAnyH_take (i := 13) (oi := { dst := some 46, op := Op.load 24 (Operand.tmp 45), type := 24, pos := "ref.go:36", after := #[{ on := 12, ground := Ground.data }], guard := none }) (v := ?_) rfl (by kernel_rfl) (by kernel_rfl) (by kernel_rfl) (fun _ _ _ h => h) (Or.inl ⟨by rfl, ?_⟩) (by assumption) ?_
        rotate_left
        focus (intro w hSw; (try dsimp only at hSw); go_simp; try (with_reducible rfl))
        try simp only [Act.put, List.setIfInBounds_toArray, List.set_cons_zero, List.set_cons_succ]
        refine wpAnyH_take (i := 14) (oi := { dst := some 47, op := Op.move (Operand.tmp 4), type := 44, pos := "ref.go:36", after := #[], guard := none }) (v := ?_) rfl (by kernel_rfl) (by kernel_rfl) (by kernel_rfl) (fun _ _ _ h => h) (Or.inl ⟨by rfl, ?_⟩) (by assumption) ?_
        rotate_left
        focus (intro w hSw; (try dsimp only at hSw); go_simp; try (with_reducible rfl))
        try simp only [Act.put, List.setIfInBounds_toArray, List.set_cons_zero, List.set_cons_succ]
        refine wpAnyH_take (i := 15) (oi := { dst := some 48, op := Op.move (Operand.tmp 5), type := 3, pos := "ref.go:36", after := #[], guard := none }) (v := ?_) rfl (by kernel_rfl) (by kernel_rfl) (by kernel_rfl) (fun _ _ _ h => h) (Or.inl ⟨by rfl, ?_⟩) (by assumption) ?_
        rotate_left
        focus (intro w hSw; (try dsimp only at hSw); go_simp; try (with_reducible rfl))
        try simp only [Act.put, List.setIfInBounds_toArray, List.set_cons_zero, List.set_cons_succ]
        refine wpAnyH_take (i := 16) (oi := { dst := some 49, op := Op.indexAddr 44 (Operand.tmp 47) (Operand.tmp 48), type := 0, pos := "ref.go:36", after := #[{ on := 14, ground := Ground.data }, { on := 15, ground := Ground.data }], guard := none }) (v := ?_) rfl (by kernel_rfl) (by kernel_rfl) (by kernel_rfl) (fun _ _ _ h => h) (Or.inl ⟨by rfl, ?_⟩) (by assumption) ?_
        rotate_left
        focus (intro w hSw; (try dsimp only at hSw); go_simp; try (with_reducible rfl))
        try simp only [Act.put, List.setIfInBounds_toArray, List.set_cons_zero, List.set_cons_succ]
        refine wpAnyH_take (i := 17) (oi := { dst := some 50, op := Op.load 3 (Operand.tmp 49), type := 3, pos := "ref.go:36", after := #[{ on := 16, ground := Ground.data }], guard := none }) (v := ?_) rfl (by kernel_rfl) (by kernel_rfl) (by kernel_rfl) (fun _ _ _ h => h) (Or.inl ⟨by rfl, ?_⟩) (by assumption) ?_
        rotate_left
        focus (intro w hSw; (try dsimp only at hSw); go_simp; try (with_reducible rfl))
        try simp only [Act.put, List.setIfInBounds_toArray, List.set_cons_zero, List.set_cons_succ]
        refine wpAnyH_take (i := 18) (oi := { dst := some 51, op := Op.indexAddr 24 (Operand.tmp 46) (Operand.tmp 50), type := 0, pos := "ref.go:36", after := #[{ on := 13, ground := Ground.data }, { on := 17, ground := Ground.data }], guard := none }) (v := ?_) rfl (by kernel_rfl) (by kernel_rfl) (by kernel_rfl) (fun _ _ _ h => h) (Or.inl ⟨by rfl, ?_⟩) (by assumption) ?_
        rotate_left
        focus (intro w hSw; (try dsimp only at hSw); go_simp; try (with_reducible rfl))
        try simp only [Act.put, List.setIfInBounds_toArray, List.set_cons_zero, List.set_cons_succ]
        refine wpAnyH_take (i := 19) (oi := { dst := some 52, op := Op.fieldAddr 58 (Operand.tmp 51) 0, type := 0, pos := "ref.go:36", after := #[{ on := 18, ground := Ground.data }], guard := none }) (v := ?_) rfl (by kernel_rfl) (by kernel_rfl) (by kernel_rfl) (fun _ _ _ h => h) (Or.inl ⟨by rfl, ?_⟩) (by assumption) ?_
        rotate_left
        focus (intro w hSw; (try dsimp only at hSw); go_simp; try (with_reducible rfl))
        try simp only [Act.put, List.setIfInBounds_toArray, List.set_cons_zero, List.set_cons_succ]
        refine wpAnyH_take (i := 20) (oi := { dst := some 53, op := Op.load 5 (Operand.tmp 52), type := 5, pos := "ref.go:36", after := #[{ on := 19, ground := Ground.data }], guard := none }) (v := ?_) rfl (by kernel_rfl) (by kernel_rfl) (by kernel_rfl) (fun _ _ _ h => h) (Or.inl ⟨by rfl, ?_⟩) (by assumption) ?_
        rotate_left
        focus (intro w hSw; (try dsimp only at hSw); go_simp; try (with_reducible rfl))
        try simp only [Act.put, List.setIfInBounds_toArray, List.set_cons_zero, List.set_cons_succ]
        refine wpAnyH_take (i := 21) (oi := { dst := some 54, op := Op.binOp BinOp.rem 5 (Operand.tmp 53) (Operand.const (Value.int IntKind.u8 64)) 5, type := 5, pos := "ref.go:36", after := #[{ on := 20, ground := Ground.data }], guard := none }) (v := ?_) rfl (by kernel_rfl) (by kernel_rfl) (by kernel_rfl) (fun _ _ _ h => h) (Or.inl ⟨by rfl, ?_⟩) (by assumption) ?_
        rotate_left
        focus (intro w hSw; (try dsimp only at hSw); go_simp; try (with_reducible rfl))
        try simp only [Act.put, List.setIfInBounds_toArray, List.set_cons_zero, List.set_cons_succ]
        refine wpAnyH_take (i := 22) (oi := { dst := some 55, op := Op.build 99 #[(0, Operand.tmp 37), (1, Operand.tmp 44), (2, Operand.tmp 54)], type := 99, pos := "ref.go:36", after := #[{ on := 4, ground := Ground.data }, { on := 11, ground := Ground.data }, { on := 21, ground := Ground.data }], guard := none }) (v := ?_) rfl (by kernel_rfl) (by kernel_rfl) (by kernel_rfl) (fun _ _ _ h => h) (Or.inl ⟨by rfl, ?_⟩) (by assumption) ?_
        rotate_left
        focus (intro w hSw; (try dsimp only at hSw); go_simp; try (with_reducible rfl))
        try simp only [Act.put, List.setIfInBounds_toArray, List.set_cons_zero, List.set_cons_succ]
        refine wpAnyH_ready (rs := [23]) (by kernel_rfl) (by simp) (AllReadyH.cons (o := { dst := some 56, op := Op.buildSlice 102 1 #[(0, Operand.tmp 55)], type := 102, pos := "ref.go:36", after := #[{ on := 22, ground := Ground.data }], guard := none }) rfl (fun K hK => ?_) AllReadyH.nil)
        go_simp
        refine hK.out _ _ (HS3.out _ _ _ (H3.out.drew.below (below_alloc _ _))) (fun hHeld => ?_)
        clear hK K
        try simp only [Act.put, List.setIfInBounds_toArray, List.set_cons_zero, List.set_cons_succ]
        refine wpAnyH_ready (rs := [24]) (by kernel_rfl) (by simp) (AllReadyH.cons (o := { dst := some 57, op := Op.call { callee := Callee.builtin Builtin.append, args := #[Operand.tmp 33, Operand.tmp 56], argTypes := #[102, 102] }, type := 102, pos := "ref.go:36", after := #[{ on := 0, ground := Ground.data }, { on := 23, ground := Ground.data }], guard := none }) rfl (fun K hK => ?_) AllReadyH.nil)
        refine step_append_own rfl _ _ _ rfl 0 99 i0 (.agg #[.int .i64 0, .int .i64 0, .int .u8 0]) 3 24 Try.underlying102 hi hz0 hz1 hz2 rfl (by decide) _ _ _ rfl (H3.out.drew.st.row.alloc _) ⟨w3.drew.heap.size, 0, none⟩ 1 1 [.int .i64 p, .int .i64 fk, .int .u8 fa] rfl rfl (cell_three_new _ _ _ _ _) (by simp [Value.oneCell']) (by unfold maxLen; omega) (by omega) (Nat.zero_le _) ?_
        intro v1 w1 hown1 hgrow1 hat1
        have hR9 := H3.out.drew.app HF.out (below_alloc _ _) hgrow1 hown1 rfl rfl hat1
        have HR9 := Lib.hid hR9
        clear hown1 hgrow1 hat1 hR9
        refine hK.out _ _ (HS3.out _ _ _ HR9.out) (fun hHeld => ?_)
        clear hK K
        try simp only [Act.put, List.setIfInBounds_toArray, List.set_cons_zero, List.set_cons_succ]
        refine wpAnyH_take (i := 25) (oi := { dst := some 3, op := Op.assign (Operand.tmp 57), type := 102, pos := "ref.go:36", after := #[{ on := 24, ground := Ground.data }, { on := 24, ground := Ground.chain }, { on := 0, ground := Ground.phase }, { on := 1, ground := Ground.phase }, { on := 2, ground := Ground.phase }, { on := 3, ground := Ground.phase }, { on := 4, ground := Ground.phase }, { on := 5, ground := Ground.phase }, { on := 6, ground := Ground.phase }, { on := 7, ground := Ground.phase }, { on := 8, ground := Ground.phase }, { on := 9, ground := Ground.phase }, { on := 10, ground := Ground.phase }, { on := 11, ground := Ground.phase }, { on := 12, ground := Ground.phase }, { on := 13, ground := Ground.phase }, { on := 14, ground := Ground.phase }, { on := 15, ground := Ground.phase }, { on := 16, ground := Ground.phase }, { on := 17, ground := Ground.phase }, { on := 18, ground := Ground.phase }, { on := 19, ground := Ground.phase }, { on := 20, ground := Ground.phase }, { on := 21, ground := Ground.phase }, { on := 22, ground := Ground.phase }, { on := 23, ground := Ground.phase }, { on := 24, ground := Ground.phase }], guard := none }) (v := ?_) rfl (by kernel_rfl) (by kernel_rfl) (by kernel_rfl) (fun _ _ _ h => h) (Or.inl ⟨by rfl, ?_⟩) (by assumption) ?_
        rotate_left
        focus (intro w hSw; (try dsimp only at hSw); go_simp; try (with_reducible rfl))
        try simp only [Act.put, List.setIfInBounds_toArray, List.set_cons_zero, List.set_cons_succ]
        refine wpAnyH_done (by kernel_rfl) ?_ _
        go_wp2
        go_roundw
        case rel => exact ⟨i + 1, _, rfl, by go_num, by omega, HR9.out⟩
        case measure => simp [intOf]; omega
    · have hi2 : ¬ (i : Int) < (m : Int) := by omega
      have hie : i = (allL L).length := by have := HMM.out; omega
      have hrow := hs.st.row
      have ho := hs.st.old
      rw [hie, List.take_length] at hrow
      have HR := Lib.hid hrow
      have HO := Lib.hid ho
      clear hs hrow ho hie
      go_wp2
      go_ret
      exact ⟨_, rfl, HR.out, HO.out⟩
end Go.Proofs.Ytlcjiffnmpkndaa.Pl
