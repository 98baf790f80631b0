/-
  The reference's fields.
-/
import Derived.Test.YtgbekdeedahajaaFlW
import Derived.Test.YtgbekdeedahajaaFlU
namespace Go.Proofs.Ytgbekdeedahajaa.Pl
open Go.RowKit Go.Shelf Base
set_option linter.unusedVariables false
set_option linter.unusedSimpArgs false

/-- An append of one row behind an own one, as an operation of a drawn region. -/
theorem step_append_own {P : Program} {ops : Array Oper} {o : Oper} {a : Act} {w : World} {K : Act → World → Prop} {Q : Exit → Act → World → Prop} {E : Prop} (hgd : o.guard = Option.none) (s x : Operand) (t : TypeId)
    (ho : o.op = .call { callee := .builtin .append, args := #[s, x], argTypes := #[t, t] })
    (base : Nat) (e : TypeId) (i : TypeInfo) (z : Value) (size bytes : Nat) (ht : P.underlying t = some (.slice e)) (hi : P.info? e = some i) (hz : i.zero = some z)
    (hsize : i.size = size) (hby : i.bytes = bytes) (hzs : z.cells.size = size) (hsz : 0 < size)
    (v : Value) (n : Nat) (xs : List Value) (hs : a.eval s = v) (hown : w.ownsRow base e size v n xs)
    (ad : Addr) (m c : Nat) (news : List Value) (hx : a.eval x = .slice (some ad) m c) (hl : news.length = m * size) (hnews : ∀ j u, news[j]? = some u → w.cell? (ad.add j) = some u) (h1 : ∀ u ∈ news, u.oneCell' = true)
    (h63 : n + m ≤ maxLen) (hbytes : (n + m) * bytes ≤ 140737488355328) (hbase : base ≤ w.heap.size)
    (h : ∀ v' w', w'.ownsRow base e size v' (n + m) (xs ++ news) → w.grownBy w' v.ownBlock → (v'.ownBlock = v.ownBlock ∨ v'.ownBlock = some w.heap.size) → K (a.put o.dst v') w') :
    if Region.wanted o (yielded ops a.tmps) = true then Oper.wp P o a w K Q else E := by
  have hw : Region.wanted o (yielded ops a.tmps) = true := by simp [Region.wanted, hgd]
  rw [if_pos hw]
  obtain ⟨v', w', hr, h2, h3, h4, h5⟩ := run_append_own_at (P := P) w base t o.type e i z size bytes ht hi hz hsize hby hzs hsz v n xs hown ad m c news hl hnews h1 h63 hbytes hbase
  unfold Oper.wp execOp
  simp only [ho, resolve, invoke, builtin, Sem.run_bind, Sem.run_pure, Result.andThen_ok, List.map_toArray, List.map_cons, List.map_nil, hs, hx, hr]
  exact h v' w' h2 h3 h5
/-- A field's length, by the next attribute's place. -/
theorem len_next {L : List Cl} {i : Nat} {f g : Fd} (hf : (allL L)[i]? = some f) (hg : (allL L)[i + 1]? = some g) : f.k = g.s - f.s - 1 := by
  have h := stg L L.length
  obtain ⟨p, p1, p2, rfl⟩ := h.each i f hf
  obtain ⟨q, q1, q2, rfl⟩ := h.each _ g hg
  obtain ⟨h1, h2⟩ := h.next i _ _ hf hg
  rw [begF_s, begF_s] at h1 ⊢
  have ha : aftL L p = q := aft_of (by omega) (by omega) (by omega) (by omega) q2 (.inl ⟨h1, h2⟩)
  show mv L.length (aftL L p) (-1 - p) = _
  unfold mv
  rw [if_neg (by omega), ha, show (q : Int) + (-1 - p) = q - p - 1 by omega]
  exact Int.emod_eq_of_lt (by omega) (by omega)
theorem len_last {L : List Cl} {i : Nat} {f g : Fd} (hf : (allL L)[i]? = some f) (hg : (allL L)[0]? = some g) (hn : (allL L)[i + 1]? = none) : f.k = g.s + L.length - f.s - 1 := by
  have h := stg L L.length
  obtain ⟨p, p1, p2, rfl⟩ := h.each i f hf
  obtain ⟨q, q1, q2, rfl⟩ := h.each _ g hg
  have hb := h.behind i _ hf hn
  have hah := h.ahead _ hg
  rw [begF_s] at hb hah ⊢
  rw [begF_s]
  have hqp : (q : Int) ≤ p := by
    by_cases hpq : (q : Int) ≤ p
    · exact hpq
    · have := hah p (by omega) (by omega)
      rw [p2] at this; cases this
  have ha : aftL L p = q := aft_of (by omega) (by omega) (by omega) (by omega) q2 (.inr ⟨hqp, hb, hah⟩)
  show mv L.length (aftL L p) (-1 - p) = _
  unfold mv
  rw [if_neg (by omega), ha, show (q : Int) + (-1 - p) = (q - p - 1 + L.length) - L.length by omega, Int.sub_emod_right]
  rw [Int.emod_eq_of_lt (by omega) (by omega)]; omega
theorem info_rfd : (Try.prog.info? 40).map (fun i => (i.zero, i.size, i.bytes)) = some (some (.agg #[.int .i64 0, .int .i64 0, .int .u8 0]), 3, 24) := by kernel_rfl
/-- The reference's fields as far as they are laid, beside the row of places. -/
structure AlQ2 (w : World) (s gx n cap : Nat) (r c cur : Int) (L : List Cl) (vl v : Value) (i : Nat) (W : World) : Prop where
  st : StQ w s gx n cap r c cur L 40 3 v i (flatF ((allL L).take i)) W
  ls : W.ownsRow 0 3 1 vl (startsL L).length (intsV (startsL L))
section
variable {w W W' : World} {s gx n cap : Nat} {r c cur : Int} {L : List Cl} {vl v : Value} {i : Nat}
theorem AlQ2.below (h : AlQ2 w s gx n cap r c cur L vl v i W) (t : Below W.heap.size W W') : AlQ2 w s gx n cap r c cur L vl v i W' :=
  ⟨h.st.below t, row_turn h.ls (S := fun _ => False) (Turn.of_below t) (fun _ _ => id)⟩
theorem AlQ2.drew (h : AlQ2 w s gx n cap r c cur L vl v i W) : AlQ2 w s gx n cap r c cur L vl v i W.drew := h.below (below_dn W 1)
theorem AlQ2.app (h : AlQ2 w s gx n cap r c cur L vl v i W) {f : Fd} (hf : (allL L)[i]? = some f) {W1 w1 : World} (hb : Below W.heap.size W W1) (hgrow : W1.grownBy w1 v.ownBlock) {v' : Value} {m' : Nat} {ys : List Value} (hown : w1.ownsRow 0 40 3 v' m' ys) (hm : m' = i + 1) (hy : ys = flatF ((allL L).take i) ++ [.int .i64 f.s, .int .i64 f.k, .int .u8 f.a]) (hat : v'.ownBlock = v.ownBlock ∨ v'.ownBlock = some W1.heap.size) :
    AlQ2 w s gx n cap r c cur L vl v' (i + 1) w1 := by
  have ht : flatF ((allL L).take (i + 1)) = flatF ((allL L).take i) ++ [.int .i64 f.s, .int .i64 f.k, .int .u8 f.a] := by
    obtain ⟨h1, rfl⟩ := List.getElem?_eq_some_iff.1 hf
    rw [List.take_succ_eq_append_getElem h1, flatF_snoc]
  subst hm
  rw [hy, ← ht] at hown
  refine ⟨h.st.app (by decide) hb hgrow hown hat, ?_⟩
  have t1 : Turn (fun j => v.ownBlock = some j) W w1 := (Turn.of_below hb).grown hgrow (fun k hk => .inr hk)
  refine row_turn h.ls t1 (fun j hj e => ?_)
  obtain ⟨cs, e1⟩ := row_typed h.ls j hj
  obtain ⟨cs', e2⟩ := row_typed h.st.row j e
  rw [e1] at e2; cases e2
end
theorem starts_get {L : List Cl} {i : Nat} {f : Fd} (h : (allL L)[i]? = some f) : (intsV (startsL L))[i]? = some (.int .i64 f.s) := by
  unfold intsV startsL startsK
  rw [List.getElem?_map, List.getElem?_map, show allK L (fun _ => L) L.length = allL L from rfl, h]; rfl
theorem starts_len (L : List Cl) : (startsL L).length = (allL L).length := by unfold startsL startsK; rw [List.length_map]; rfl
end Go.Proofs.Ytgbekdeedahajaa.Pl
