/-
  A row of fields that grows beside a row of bytes that grows.
-/
import Derived.Test.YtmmgebiojpnhcaaDoorCmdT
import Derived.Maps.AppendAt
namespace Go.Proofs.YtmmgebiojpnhcaaDoor.Cmd
open Go.RowKit Base Go.Proofs.YtmmgebiojpnhcaaDoor.Ord
set_option linter.unusedVariables false
set_option linter.unusedSimpArgs false

/-- Orders that stand in blocks of T alone. -/
def RdIn (w : World) (T : Nat → Prop) (v : Value) (L : List Or) : Prop := ∀ w', (∀ k, T k → k < w.heap.size → w'.heap[k]? = w.heap[k]?) → w.heap.size ≤ w'.heap.size → OrdsAt2 w' v L
theorem RdIn.on {w w1 : World} {T : Nat → Prop} {v : Value} {L : List Or} (h : RdIn w T v L) (hk : ∀ k, T k → k < w.heap.size → w1.heap[k]? = w.heap[k]?) (hs : w.heap.size ≤ w1.heap.size) : RdIn w1 T v L :=
  fun w' hk' hs' => h w' (fun k hT hl => (hk' k hT (Nat.lt_of_lt_of_le hl hs)).trans (hk k hT hl)) (Nat.le_trans hs hs')
theorem RdIn.more {w : World} {T T' : Nat → Prop} {v : Value} {L : List Or} (h : RdIn w T v L) (hT : ∀ k, T k → T' k) : RdIn w T' v L := fun w' hk hs => h w' (fun k ht hl => hk k (hT k ht) hl) hs
theorem OrdsOwn.rdIn {B : Nat} {w : World} {v : Value} {P : List OrdP} (h : OrdsOwn B w v P) : RdIn w (fun k => B ≤ k ∧ k < w.heap.size) v (P.map (·.1)) := fun w' hk hs => (h.keep fun g hg hl => hk g ⟨hg, hl⟩ hl).at2
structure FQ2 (s : Nat) (w : World) (A : List Int) (va : Value) (Q : List FlP) (vw : Value) (T : Nat → Prop) : Prop where
  all : OwnBytes s w va ([243] ++ A)
  row : w.ownsRow s 39 7 vw Q.length (flC Q)
  rd : ∀ q ∈ Q, RdIn w T q.2.1 q.1.ords
  lt : ∀ k, T k → k < w.heap.size
  na : ∀ g, va.ownBlock = some g → ¬ T g
  nw : ∀ g, vw.ownBlock = some g → ¬ T g
section
variable {s : Nat} {w w' : World} {A X : List Int} {va vw va' vw' : Value} {Q R : List FlP} {T : Nat → Prop}
theorem FQ2.below (h : FQ2 s w A va Q vw T) (t : Below w.heap.size w w') : FQ2 s w' A va Q vw T :=
  ⟨h.all.below t, own_keep h.row fun g _ _ hl => t.block g hl, fun q hq => (h.rd q hq).on (fun k _ hl => t.block k hl) t.size, fun k hk => Nat.lt_of_lt_of_le (h.lt k hk) t.size, h.na, h.nw⟩
/-- All that was laid since is taken into T. -/
theorem FQ2.extend (h : FQ2 s w A va Q vw T) (t : Below w.heap.size w w') : FQ2 s w' A va Q vw (fun k => T k ∨ (w.heap.size ≤ k ∧ k < w'.heap.size)) :=
  ⟨(h.below t).all, (h.below t).row, fun q hq => ((h.below t).rd q hq).more fun k hk => .inl hk, fun k hk => by
    rcases hk with hk | hk
    · exact Nat.lt_of_lt_of_le (h.lt k hk) t.size
    · exact hk.2, fun g hg hT => by
    rcases hT with hT | hT
    · exact h.na g hg hT
    · have := (World.ownsRow.lt h.all g hg).2; omega, fun g hg hT => by
    rcases hT with hT | hT
    · exact h.nw g hg hT
    · have := (World.ownsRow.lt h.row g hg).2; omega⟩
theorem FQ2.growAll (h : FQ2 s w A va Q vw T) (hown : OwnBytes s w' va' ([243] ++ A ++ X)) (hg : w.grownBy w' va.ownBlock) (hat : va'.ownBlock = va.ownBlock ∨ va'.ownBlock = some w.heap.size) : FQ2 s w' (A ++ X) va' Q vw T := by
  have hk : ∀ k, T k → k < w.heap.size → w'.heap[k]? = w.heap[k]? := fun k hT hl => hg.block k hl fun e => h.na k e.symm hT
  refine ⟨by rw [← List.append_assoc]; exact hown, own_keep h.row fun g hgg _ hl => hg.block g hl fun e => fl_ne (by decide) h.row h.all g hgg e.symm, fun q hq => (h.rd q hq).on hk hg.size, fun k hk => Nat.lt_of_lt_of_le (h.lt k hk) hg.size, fun g hgg hT => ?_, h.nw⟩
  rcases hat with e | e
  · exact h.na g (e.symm.trans hgg) hT
  · rw [e] at hgg
    injection hgg with hgg
    have := h.lt g hT; omega
theorem FQ2.growWant (h : FQ2 s w A va Q vw T) (hr : ∀ q ∈ R, RdIn w T q.2.1 q.1.ords) (hown : w'.ownsRow s 39 7 vw' (Q.length + R.length) (flC Q ++ flC R)) (hg : w.grownBy w' vw.ownBlock) (hat : vw'.ownBlock = vw.ownBlock ∨ vw'.ownBlock = some w.heap.size) : FQ2 s w' A va (Q ++ R) vw' T := by
  have hk : ∀ k, T k → k < w.heap.size → w'.heap[k]? = w.heap[k]? := fun k hT hl => hg.block k hl fun e => h.nw k e.symm hT
  refine ⟨own_keep h.all fun g hgg _ hl => hg.block g hl fun e => fl_ne (by decide) h.row h.all g e.symm hgg, by rw [List.length_append, flC_append]; exact hown, fun q hq => ?_, fun k hk => Nat.lt_of_lt_of_le (h.lt k hk) hg.size, h.na, fun g hgg hT => ?_⟩
  · rcases List.mem_append.1 hq with hq | hq
    · exact (h.rd q hq).on hk hg.size
    · exact (hr q hq).on hk hg.size
  · rcases hat with e | e
    · exact h.nw g (e.symm.trans hgg) hT
    · rw [e] at hgg
      injection hgg with hgg
      have := h.lt g hT; omega
/-- What grew can be read. -/
theorem FQ2.at (h : FQ2 s w A va Q vw T) : FlsAt w vw (Q.map (·.1)) := by
  rcases h.row.2 with ⟨rfl, hn⟩ | ⟨g, cap, cur, rfl, hg, hgb, hrest⟩
  · have : Q = [] := List.eq_nil_of_length_eq_zero hn
    subst this
    exact ⟨none, 0, rfl, fun h => absurd rfl h⟩
  · refine ⟨some ⟨g, 0, none⟩, cap, by rw [List.length_map], fun hne => ⟨g, 0, rfl, lt_of_block hgb, fun i f hf => ?_⟩⟩
    rw [List.getElem?_map] at hf
    cases hp : Q[i]? with
    | none => rw [hp] at hf; cases hf
    | some p =>
      rw [hp] at hf
      obtain rfl : p.1 = f := by simpa using hf
      obtain ⟨f0, f1, f2, f3, f4, f5, f6⟩ := flC_get Q i p hp
      refine ⟨p.2.1, ?_, h.rd p (List.mem_of_getElem? hp) w (fun _ _ _ => rfl) (Nat.le_refl _)⟩
      rw [show (0 : Nat) + i * 7 = i * 7 from Nat.zero_add _]
      exact ⟨own_cell h.row _ _ f0, own_cell h.row _ _ f1, own_cell h.row _ _ f2, own_cell h.row _ _ f3, own_cell h.row _ _ f4, own_cell h.row _ _ f5, own_cell h.row _ _ f6⟩
theorem FQ2.form (h : FQ2 s w A va Q vw T) : ∃ a c, vw = .slice a Q.length c := by
  rcases h.row.2 with ⟨rfl, h0⟩ | ⟨g, cap, cur, rfl, _⟩
  · exact ⟨none, 0, by rw [h0]⟩
  · exact ⟨_, _, rfl⟩
end
section
variable {ops : Array Oper} {rest : List Oper} {o : Oper} {a : Act} {w : World} {Q : Exit → Act → World → Prop}
theorem append_row_at (hgd : o.guard = Option.none) (s x : Operand) (ho : o.op = .call { callee := .builtin .append, args := #[s, x], argTypes := #[22, 22] })
    {base : Nat} {v u : Value} {L X : List Int} (hown : OwnBytes base w v L) (hr : RowOf .u8 w u X) (hu : ∀ n c, u = .slice Option.none n c → c = 0) (hs : a.eval s = v) (hx : a.eval x = u)
    (hm : L.length + X.length ≤ 10000000) (hb : base ≤ w.heap.size)
    (h : ∀ v' w', OwnBytes base w' v' (L ++ X) → w.grownBy w' v.ownBlock → (v'.ownBlock = v.ownBlock ∨ v'.ownBlock = some w.heap.size) → wpList Tryd.prog ops Q rest (a.put o.dst v') w') : wpList Tryd.prog ops Q (o :: rest) a w := by
  obtain ⟨i0, hi, hz0, hz1, hz2⟩ := info_parts info_byte
  have hgen := hr
  obtain ⟨ad, c, rfl, hrow⟩ := hr
  cases ad with
  | none =>
    obtain ⟨h0, rfl⟩ := hgen.none
    obtain rfl := hu _ _ rfl
    have hrun := run_append_owned_none (P := Tryd.prog) (w := w) base 22 o.type 5 i0 1 Tryd.underlying22 hi v L.length _ hown
    have hx : a.eval x = .slice Option.none 0 0 := hx
    refine wpList_step fun K hK => ?_
    have hw : Region.wanted o (yielded ops a.tmps) = true := by simp [Region.wanted, hgd]
    rw [if_pos hw]
    unfold Oper.wp
    simp [execOp, ho, resolve, invoke, builtin, hs, hx, hrun, Result.andThen]
    exact hK _ _ (h v w (by simpa using hown) ⟨rfl, rfl, rfl, Nat.le_refl _, fun _ _ _ => rfl⟩ (.inl rfl))
  | some ad =>
    obtain ⟨_, hc⟩ := hgen.reads
    refine wpList_append_own_at _ hgd s x 22 ho base 5 i0 (.int .u8 0) 1 1 Tryd.underlying22 hi hz0 hz1 hz2 rfl (by decide) v L.length _ hs hown ad X.length c (X.map (Value.int .u8)) hx (by simp) hc (bytes_one X) (by unfold maxLen; omega) (by omega) hb ?_
    intro v' w' hown' hgrow _ hat
    exact h v' w' (by unfold OwnBytes; rw [List.length_append, List.map_append]; exact hown') hgrow hat
theorem append_fls_at (hgd : o.guard = Option.none) (s x : Operand) (ho : o.op = .call { callee := .builtin .append, args := #[s, x], argTypes := #[26, 26] })
    {base b n : Nat} {v u : Value} {X : List Value} {P : List FlP} (hown : w.ownsRow base 39 7 v n X) (hr : FlsOwn b w u P) (hs : a.eval s = v) (hx : a.eval x = u)
    (hm : n + P.length ≤ 100000) (hb : base ≤ w.heap.size)
    (h : ∀ v' w', w'.ownsRow base 39 7 v' (n + P.length) (X ++ flC P) → w.grownBy w' v.ownBlock → (v'.ownBlock = v.ownBlock ∨ v'.ownBlock = some w.heap.size) → wpList Tryd.prog ops Q rest (a.put o.dst v') w') : wpList Tryd.prog ops Q (o :: rest) a w := by
  obtain ⟨i0, hi, hz0, hz1, hz2⟩ := info_parts info_fls
  rcases hr.row.2 with ⟨rfl, h0⟩ | ⟨g, cap, cur, rfl, _⟩
  · have hP : P = [] := List.eq_nil_of_length_eq_zero h0
    subst hP
    have hrun := run_append_owned_none (P := Tryd.prog) (w := w) base 26 o.type 39 i0 7 Tryd.underlying26 hi v n _ hown
    refine wpList_step fun K hK => ?_
    have hw : Region.wanted o (yielded ops a.tmps) = true := by simp [Region.wanted, hgd]
    rw [if_pos hw]
    unfold Oper.wp
    simp [execOp, ho, resolve, invoke, builtin, hs, hx, hrun, Result.andThen]
    exact hK _ _ (h v w (by simpa [flC] using hown) ⟨rfl, rfl, rfl, Nat.le_refl _, fun _ _ _ => rfl⟩ (.inl rfl))
  · refine wpList_append_own_at _ hgd s x 26 ho base 39 i0 (.agg #[.int .u8 0, .int .u8 0, .int .u8 0, .int .u8 0, .slice none 0 0, .int .i64 0, .slice none 0 0]) 7 72 Tryd.underlying26 hi hz0 hz1 hz2 rfl (by decide) v n X hs hown ⟨g, 0, none⟩ P.length cap (flC P) hx (flC_len P) (fun j u hu => World.ownsRow.cells hr.row (g := g) rfl j _ hu) (flC_one fun p hp => ?_) (by unfold maxLen; omega) (by omega) hb ?_
    · obtain ⟨a1, c1, e1⟩ := (hr.own p hp).1.form
      exact ⟨_, _, _, e1⟩
    · intro v' w' hown' hgrow _ hat
      exact h v' w' hown' hgrow hat
end
end Go.Proofs.YtmmgebiojpnhcaaDoor.Cmd
