/-
  append of a row of bytes behind another, whatever a row of no bytes has for room.
  A talk and a host's options whose words come to each other: what comes to a terminal is answered, and that by the host.
  What comes to a terminal is answered, and that by the host: the statements' 'turn'.
-/
import Derived.Test.YtkolhjglehnigaaAppRow
import Derived.Test.YtkolhjglehnigaaTalkF
import Derived.Test.YtkolhjglehnigaaProto
import Derived.Test.YtkolhjglehnigaaEscPlain
import Derived.Test.YtkolhjglehnigaaDecF
import Derived.Test.YtkolhjglehnigaaOptC
namespace Go.Proofs.Ytkolhjglehnigaa.Base
open Go.RowKit
set_option linter.unusedVariables false

theorem run_append_empty {w : World} (base : Nat) (t ty e : TypeId) (i : TypeInfo) (size : Nat) (ht : Try.prog.underlying t = some (.slice e)) (hi : Try.prog.info? e = some i)
    (v : Value) (n c : Nat) (xs : List Value) (hown : w.ownsRow base e size v n xs) :
    (Builtin.append_ #[t, t] ty #[v, .slice none 0 c]).run Try.prog w = .ok v w := by
  rcases hown.2 with ⟨rfl, rfl⟩ | ⟨g, cap, cur, rfl, _, _, hnc, _⟩
  · simp [Builtin.append_, run_underlying ht, sizeOf, typeInfo, hi, Builtin.lenOf, Builtin.firstCells]
  · simp [Builtin.append_, run_underlying ht, sizeOf, typeInfo, hi, Builtin.lenOf, Builtin.firstCells, hnc, storeCells]
end Go.Proofs.Ytkolhjglehnigaa.Base
namespace Go.Proofs.Ytkolhjglehnigaa.Base
open Go.RowKit
set_option linter.unusedVariables false
section
variable {ops : Array Oper} {rest : List Oper} {o : Oper} {a : Act} {w : World} {Q : Exit → Act → World → Prop}
/-- append of a row of bytes behind the call's own, with what else is turned: the own block alone. -/
theorem append_any (hgd : o.guard = Option.none) (s x : Operand) (ho : o.op = .call { callee := .builtin .append, args := #[s, x], argTypes := #[24, 24] })
    {base : Nat} {v u : Value} {L X : List Int} (hown : OwnBytes base w v L) (hr : RowOf .u8 w u X) (hs : a.eval s = v) (hx : a.eval x = u)
    (hm : L.length + X.length ≤ 10000000) (hb : base ≤ w.heap.size)
    (h : ∀ v' w', OwnBytes base w' v' (L ++ X) → w.grownBy w' v.ownBlock → wpList Try.prog ops Q rest (a.put o.dst v') w') : wpList Try.prog ops Q (o :: rest) a w := by
  refine wpList_plain hgd fun _ hK => ?_
  obtain ⟨i0, hi, hz0, hz1, hz2⟩ := info_parts info_byte
  have hgen := hr
  obtain ⟨ad, c, rfl, hrow⟩ := hr
  cases ad with
  | none =>
    obtain ⟨h0, rfl⟩ := hgen.none
    have hrun := run_append_empty (w := w) base 24 o.type 5 i0 1 Try.underlying24 hi v L.length c _ hown
    have hx : a.eval x = .slice Option.none 0 c := hx
    unfold Oper.wp
    simp [execOp, ho, resolve, invoke, builtin, hs, hx, hrun, Result.andThen]
    exact hK _ _ (h v w (by simpa using hown) ⟨rfl, rfl, rfl, Nat.le_refl _, fun _ _ _ => rfl⟩)
  | some ad =>
    obtain ⟨_, hc⟩ := hgen.reads
    refine wp_append_own _ s x 24 ho base 5 i0 (.int .u8 0) 1 1 Try.underlying24 hi hz0 hz1 hz2 rfl (by decide) v L.length _ hs hown ad X.length c (X.map (Value.int .u8)) hx (by simp) hc (bytes_one X) (by unfold maxLen; omega) (by omega) hb ?_
    intro v' w' hown' hgrow hnil
    exact hK _ _ (h v' w' (hown.grown0 (X := X) hown' hgrow (Below.refl _ w) hb).1 hgrow)
end
end Go.Proofs.Ytkolhjglehnigaa.Base
namespace Go.Proofs.Ytkolhjglehnigaa.Talk
open Go.RowKit Base Opt Iac
set_option linter.unusedVariables false

/-! ### Words, plainly -/
def wE (L : List Wd) : List Ev := L.map fun w => ⟨4, w.1, (w.2 : Int), []⟩
theorem fold_word (D : Dec) (J : List Ev) (c o : Int) (h : D.state = 0) (hc : 251 ≤ c ∧ c ≤ 254) : foldF (D, J) [255, c, o] = ({ D with verb := c }, J ++ [⟨4, c, o, []⟩]) := by
  have e : foldF (D, J) [255, c, o] = takeD (foldF (D, J) [255, c]).1 (foldF (D, J) [255, c]).2 o := rfl
  have e2 : foldF (D, J) [255, c] = ({ D with state := 2, verb := c }, J) := by
    rw [foldF_two, take0m D J h]
    show takeD { D with state := 1 } J c = _
    rw [take1 _ _ _ rfl]
    unfold commandD
    rw [if_neg (by omega), if_neg (by omega), if_neg (by omega), if_pos hc]
  rw [e, e2]
  unfold takeD
  rw [if_neg (by simp), if_pos rfl]
  cases D
  simp at h
  simp [h]
theorem fold_words : ∀ (L : List Wd) (D : Dec) (J : List Ev), D.state = 0 → (∀ w ∈ L, WdOk w) → ∃ D', D'.state = 0 ∧ foldF (D, J) (flatW L) = (D', J ++ wE L) := by
  intro L
  induction L with
  | nil => intro D J h _; exact ⟨D, h, by simp [flatW, wE, foldF]⟩
  | cons w L ih =>
    intro D J h hL
    have hw := hL w (by simp)
    have e : flatW (w :: L) = [255, w.1, (w.2 : Int)] ++ flatW L := by simp [flatW]
    rw [e, foldF_append, fold_word D J w.1 w.2 h ⟨hw.1, hw.2.1⟩]
    obtain ⟨D', h1, h2⟩ := ih { D with verb := w.1 } (J ++ [⟨4, w.1, (w.2 : Int), []⟩]) h fun x hx => hL x (by simp [hx])
    exact ⟨D', h1, by rw [h2]; simp [wE]⟩
theorem feed_words (D : Dec) (h : D.state = 0) (L : List Wd) (hL : ∀ w ∈ L, WdOk w) : ∃ D', D'.state = 0 ∧ feedD D (flatW L) = (D', wE L) := by
  obtain ⟨D', h1, h2⟩ := fold_words L D [] h hL
  exact ⟨D', h1, by rw [feedD_fold, h2]; rfl⟩
def stepW (M : Nat → Bool) (p : (Nat → Nat) × List Wd) (w : Wd) : (Nat → Nat) × List Wd := ((gotW M p.1 w).1, p.2 ++ (gotW M p.1 w).2)
/-- The states, and what is said, behind words. -/
def runW (M : Nat → Bool) (S : Nat → Nat) (L : List Wd) : (Nat → Nat) × List Wd := L.foldl (stepW M) (S, [])
theorem runW_take (M : Nat → Bool) (S : Nat → Nat) (L : List Wd) (k : Nat) (w : Wd) (h : L[k]? = some w) : runW M S (L.take (k + 1)) = stepW M (runW M S (L.take k)) w := by
  have : L.take (k + 1) = L.take k ++ [w] := by rw [List.take_add_one, h]; rfl
  rw [this]
  simp [runW]
theorem allA_run : ∀ (t : List Wd) (N : Net), ((N.allA t).SA, (N.allA t).ab) = t.foldl (stepW N.MA) (N.SA, N.ab) := by
  intro t
  induction t with
  | nil => intro N; rfl
  | cons w t ih => intro N; exact ih (N.toA w t)
theorem gotW_le (M : Nat → Bool) (S : Nat → Nat) (w : Wd) (h : Le5 S) (hw : WdOk w) : Le5 (gotW M S w).1 := by
  have := gotS_le (M := M) w.1 w.2 h
  rw [gotS_W M S w hw] at this
  exact this
structure RunOk (p : (Nat → Nat) × List Wd) (n : Nat) : Prop where
  le : Le5 p.1
  ok : ∀ w ∈ p.2, WdOk w
  len : p.2.length ≤ n
theorem stepW_ok (M : Nat → Bool) (p : (Nat → Nat) × List Wd) (n : Nat) (w : Wd) (h : RunOk p n) (hw : WdOk w) : RunOk (stepW M p w) (n + 1) := by
  refine ⟨gotW_le M p.1 w h.le hw, fun x hx => ?_, ?_⟩
  · rcases List.mem_append.1 hx with hx | hx
    · exact h.ok x hx
    · exact saidW_ok _ _ _ (on2_word _ _ _) hw.2.2 x hx
  · have h1 := h.len
    have h2 : (gotW M p.1 w).2.length ≤ 1 := by
      show (saidW _ _ _).length ≤ 1
      unfold saidW; split <;> simp
    show (p.2 ++ (gotW M p.1 w).2).length ≤ _
    rw [List.length_append]
    omega
theorem runW_ok (M : Nat → Bool) (S : Nat → Nat) (h : Le5 S) (L : List Wd) (hL : ∀ w ∈ L, WdOk w) : RunOk (runW M S L) L.length := by
  have : ∀ (L : List Wd) (p : (Nat → Nat) × List Wd) (n : Nat), RunOk p n → (∀ w ∈ L, WdOk w) → RunOk (L.foldl (stepW M) p) (n + L.length) := by
    intro L
    induction L with
    | nil => intro p n h _; exact h
    | cons w L ih =>
      intro p n h hL
      have := ih _ _ (stepW_ok M p n w h (hL w (by simp))) fun x hx => hL x (by simp [hx])
      rw [List.length_cons, show n + (L.length + 1) = n + 1 + L.length by omega]
      exact this
  have := this L (S, []) 0 ⟨h, by simp, by simp⟩ hL
  rwa [Nat.zero_add] at this
theorem run_le {M : Nat → Bool} {S : Nat → Nat} (h : Le5 S) {L : List Wd} (hL : ∀ w ∈ L, WdOk w) (k : Nat) : RunOk (runW M S (L.take k)) L.length := by
  have := runW_ok M S h (L.take k) fun x hx => hL x (List.mem_of_mem_take hx)
  exact ⟨this.le, this.ok, by have := this.len; rw [List.length_take] at this; omega⟩

/-! ### A word that comes, in memory -/
section
variable {w W W' : World} {b : Nat} {nm : ByteArray} {M : Nat → Bool} {S : Nat → Nat} {nd : Bool}
theorem take_word (h : TalkAt W b nm M S nd) (hs : Le5 S) (hnm : nm.size ≤ 1000) (x : Wd) (hx : WdOk x) (a : Option Addr) (c : Nat) :
    Calls Try.prog 38 #[.pointer (some ⟨b, 0, none⟩), .agg #[.int .i64 4, .int .u8 x.1, .int .u8 x.2, .slice a 0 c]] W fun e W' => ∃ p nd', e = .returned p ∧ RowOf .u8 W' p (flatW (gotW M S x).2) ∧ TalkAt W' b nm M (gotW M S x).1 nd' ∧ Turn (At b) W W' := by
  have hr : RowOf .u8 W (.slice a 0 c) [] := ⟨a, c, rfl, fun h => absurd rfl h⟩
  refine (take_any 4 x.1 x.2 hx.2.2 _ [] hr h hs hnm).mono ?_
  rintro e W' ⟨p, rfl, hp, ht, hu⟩
  have e4 : takeR nm M S nd 4 x.1 x.2 [] = ((gotS M S x.1 x.2).1, nd && typeOn S, (gotS M S x.1 x.2).2) := rfl
  rw [e4, gotS_W M S x hx] at hp ht
  exact ⟨p, _, rfl, hp.row, ht, hu⟩
theorem got_word (h : OptAt W b M S) (hs : Le5 S) (x : Wd) (hx : WdOk x) :
    Calls Try.prog 85 #[.pointer (some ⟨b, 0, none⟩), .int .u8 x.1, .int .u8 x.2] W fun e W' => ∃ p, e = .returned p ∧ RowOf .u8 W' p (flatW (gotW M S x).2) ∧ OptAt W' b M (gotW M S x).1 ∧ Turn (At b) W W' := by
  refine (got_any x.1 x.2 hx.2.2 h hs).mono ?_
  rw [gotS_W M S x hx]
  rintro e W' ⟨p, rfl, hp, ht, hu⟩
  exact ⟨p, rfl, hp.row, ht, hu⟩
theorem busy_talk (h : TalkAt W b nm M S nd) (h1 : ∀ k, k < 256 → S (256 + k) ≤ 1) (h2 : ∀ k, k < 256 → S (768 + k) ≤ 1) : Calls Try.prog 33 #[.pointer (some ⟨b, 1, none⟩)] W fun e w' => e = .returned (.bool false) ∧ W = w' := by
  have c1 : ∀ k, k < 256 → W.cell? ⟨b, 257 + k, none⟩ = some (.int .i64 ((fun j => S (j - 1)) (257 + k))) := fun k hk => by
    have := h.st (256 + k) (by omega) (by omega)
    rw [show 1 + (256 + k) = 257 + k by omega] at this
    rw [this]
    show _ = some (Value.int .i64 (S (257 + k - 1) : Nat))
    rw [show 257 + k - 1 = 256 + k by omega]
  have c2 : ∀ k, k < 256 → W.cell? ⟨b, 769 + k, none⟩ = some (.int .i64 ((fun j => S (j - 1)) (769 + k))) := fun k hk => by
    have := h.st (768 + k) (by omega) (by omega)
    rw [show 1 + (768 + k) = 769 + k by omega] at this
    rw [this]
    show _ = some (Value.int .i64 (S (769 + k - 1) : Nat))
    rw [show 769 + k - 1 = 768 + k by omega]
  have b1 : bz (fun j => S (j - 1)) 257 = false := bz_false fun k hk => by
    show S (257 + k - 1) ≤ 1
    rw [show 257 + k - 1 = 256 + k by omega]; exact h1 k hk
  have b2 : bz (fun j => S (j - 1)) 769 = false := bz_false fun k hk => by
    show S (769 + k - 1) ≤ 1
    rw [show 769 + k - 1 = 768 + k by omega]; exact h2 k hk
  have k1 := contains_any b 257 (fun j => S (j - 1)) W c1
  have k2 := contains_any b 769 (fun j => S (j - 1)) W c2
  rw [b1] at k1
  rw [b2] at k2
  have K1 := Lib.hid k1
  have K2 := Lib.hid k2
  clear h h1 h2 c1 c2 b1 b2 k1 k2
  go_enter Try.func33, Try.ntmps33
  go_wp2_with fail
  refine K1.out.mono ?_
  rintro e w' ⟨rfl, rfl⟩
  go_wp2_with fail
  refine K2.out.mono ?_
  rintro e w' ⟨rfl, rfl⟩
  go_wp2_with fail
  go_ret
  exact ⟨rfl, rfl⟩
end

/-! ### Both sides in memory -/
def TT (bt bh bd be s : Nat) (k : Nat) : Prop := k = bt ∨ k = bh ∨ k = bd ∨ k = be ∨ s ≤ k
structure Apart4 (bt bh bd be s : Nat) : Prop where
  t : bt < s
  h : bh < s
  d : bd < s
  e : be < s
  th : bt ≠ bh
  td : bt ≠ bd
  te : bt ≠ be
  hd : bh ≠ bd
  he : bh ≠ be
  de : bd ≠ be
structure TW (bt bh bd be s : Nat) (nm : ByteArray) (MA MB : Nat → Bool) (SA SB : Nat → Nat) (nd : Bool) (D E : Dec) (w W : World) : Prop where
  tk : TalkAt W bt nm MA SA nd
  oh : OptAt W bh MB SB
  dd : DecAt W bd D
  de : DecAt W be E
  ap : Apart4 bt bh bd be s
  sz : s ≤ W.heap.size
  t : Turn (TT bt bh bd be s) w W
section
variable {bt bh bd be s : Nat} {nm : ByteArray} {MA MB : Nat → Bool} {SA SB SA' SB' : Nat → Nat} {nd nd' : Bool} {D E D' E' : Dec} {w W W' : World}
theorem opt_turn {T : Nat → Prop} {b : Nat} {M : Nat → Bool} {S : Nat → Nat} (h : OptAt W b M S) (t : Turn T W W') (hT : ¬ T b) : OptAt W' b M S := (t.block b (lt_of_block h) hT).trans h
theorem TW.high (h : TW bt bh bd be s nm MA MB SA SB nd D E w W) (t : Turn (fun k => s ≤ k) W W') : TW bt bh bd be s nm MA MB SA SB nd D E w W' := by
  have a := h.ap
  have h1 := a.t; have h2 := a.h; have h3 := a.d; have h4 := a.e
  exact ⟨h.tk.keep t (by omega), opt_turn h.oh t (by omega), h.dd.turn t (by omega), h.de.turn t (by omega), a, Nat.le_trans h.sz t.size, h.t.trans (t.mono fun k hk => .inr (.inr (.inr (.inr hk))))⟩
theorem TW.below (h : TW bt bh bd be s nm MA MB SA SB nd D E w W) (t : Below W.heap.size W W') : TW bt bh bd be s nm MA MB SA SB nd D E w W' :=
  h.high ((Turn.of_below t).mono fun k hk => absurd hk id)
theorem TW.talk (h : TW bt bh bd be s nm MA MB SA SB nd D E w W) (t : Turn (At bt) W W') (k : TalkAt W' bt nm MA SA' nd') : TW bt bh bd be s nm MA MB SA' SB nd' D E w W' := by
  have a := h.ap
  exact ⟨k, opt_turn h.oh t (fun e => a.th e.symm), h.dd.turn t (fun e => a.td e.symm), h.de.turn t (fun e => a.te e.symm), a, Nat.le_trans h.sz t.size, h.t.trans (t.mono fun k hk => .inl hk)⟩
theorem TW.host (h : TW bt bh bd be s nm MA MB SA SB nd D E w W) (t : Turn (At bh) W W') (k : OptAt W' bh MB SB') : TW bt bh bd be s nm MA MB SA SB' nd D E w W' := by
  have a := h.ap
  exact ⟨h.tk.keep t a.th, k, h.dd.turn t (fun e => a.hd e.symm), h.de.turn t (fun e => a.he e.symm), a, Nat.le_trans h.sz t.size, h.t.trans (t.mono fun k hk => .inr (.inl hk))⟩
theorem TW.decD (h : TW bt bh bd be s nm MA MB SA SB nd D E w W) (t : Turn (fun k => k = bd ∨ W.heap.size ≤ k) W W') (k : DecAt W' bd D') : TW bt bh bd be s nm MA MB SA SB nd D' E w W' := by
  have a := h.ap
  have h1 := a.t; have h2 := a.h; have h3 := a.d; have h4 := a.e; have h5 := h.sz; have h6 := a.td; have h7 := a.hd; have h8 := a.de
  exact ⟨h.tk.keep t (by omega), opt_turn h.oh t (by omega), k, h.de.turn t (by omega), a, Nat.le_trans h.sz t.size, h.t.trans (t.mono fun k hk => by unfold TT; omega)⟩
theorem TW.decE (h : TW bt bh bd be s nm MA MB SA SB nd D E w W) (t : Turn (fun k => k = be ∨ W.heap.size ≤ k) W W') (k : DecAt W' be E') : TW bt bh bd be s nm MA MB SA SB nd D E' w W' := by
  have a := h.ap
  have h1 := a.t; have h2 := a.h; have h3 := a.d; have h4 := a.e; have h5 := h.sz; have h6 := a.te; have h7 := a.he; have h8 := a.de
  exact ⟨h.tk.keep t (by omega), opt_turn h.oh t (by omega), h.dd.turn t (by omega), k, a, Nat.le_trans h.sz t.size, h.t.trans (t.mono fun k hk => by unfold TT; omega)⟩
end
/-- A row of events that are words. -/
structure WRow (s : Nat) (W : World) (v : Value) (n : Nat) (L : List Wd) : Prop where
  row : ∃ P : List EvP, W.ownsRow s 26 4 v n (evC P) ∧ P.length = n ∧ P.map (·.1) = wE L ∧ ∀ p ∈ P, ∃ a c, p.2 = .slice a 0 c
theorem WRow.keep {s n : Nat} {W W' : World} {v : Value} {L : List Wd} (h : WRow s W v n L) (u : ∀ g, v.ownBlock = some g → s ≤ g → g < W.heap.size → W'.heap[g]? = W.heap[g]?) : WRow s W' v n L := by
  obtain ⟨P, h1, h2⟩ := h.row
  exact ⟨P, ownsRow_keep h1 u, h2⟩
theorem WRow.below {s n : Nat} {W W' : World} {v : Value} {L : List Wd} (h : WRow s W v n L) (t : Below W.heap.size W W') : WRow s W' v n L := h.keep fun g _ _ hl => t.block g hl
theorem WRow.turn {s n : Nat} {W W' : World} {v : Value} {L : List Wd} {T : Nat → Prop} (h : WRow s W v n L) (t : Turn T W W') (hT : ∀ k, T k → k < s) : WRow s W' v n L := h.keep fun g _ hs hl => t.block g hl fun e => by have := hT g e; omega
theorem WRow.grown {s s' n : Nat} {W W' : World} {v u : Value} {L : List Wd} {X : List Int} (h : WRow s W v n L) (hu : OwnBytes s' W u X) (hg : W.grownBy W' u.ownBlock) : WRow s W' v n L := by
  obtain ⟨P, h1, h2⟩ := h.row
  exact ⟨P, ownsRow_keep h1 fun g hg' _ hl => hg.block g hl fun ee => ev_ne h1 hu g hg' ee.symm, h2⟩
theorem WRow.mk' {s : Nat} {W : World} {v : Value} {P : List EvP} {L : List Wd} (h : EvsOwn s W v P) (hm : P.map (·.1) = wE L) : WRow s W v P.length L :=
  ⟨P, h.row, rfl, hm, fun p hp => by
    have h1 : p.1 ∈ wE L := by rw [← hm]; exact List.mem_map_of_mem hp
    obtain ⟨x, _, hx⟩ := List.mem_map.1 h1
    obtain ⟨a, c, e⟩ := (h.own p hp).slice
    rw [← hx] at e
    exact ⟨a, c, e⟩⟩
theorem WRow.len {s n : Nat} {W : World} {v : Value} {L : List Wd} (h : WRow s W v n L) : n = L.length := by
  obtain ⟨P, _, h2, h3, _⟩ := h.row
  have := congrArg List.length h3
  rw [List.length_map] at this
  rw [← h2, this]
  simp [wE]
theorem WRow.form {s n : Nat} {W : World} {v : Value} {L : List Wd} (h : WRow s W v n L) : ∃ a c, v = .slice a n c := by
  obtain ⟨P, h1, h2, _⟩ := h.row
  rcases h1.2 with ⟨rfl, h0⟩ | ⟨g, cap, cur, rfl, _⟩
  · exact ⟨none, 0, by rw [h0]⟩
  · exact ⟨_, _, rfl⟩
/-- One of them. -/
theorem WRow.get {s n : Nat} {W : World} {v : Value} {L : List Wd} (h : WRow s W v n L) (k : Nat) (x : Wd) (hk : L[k]? = some x) :
    ∃ g c a c', v = .slice (some ⟨g, 0, none⟩) n c ∧ g < W.heap.size ∧ W.cell? ⟨g, k * 4, none⟩ = some (.int .i64 4) ∧ W.cell? ⟨g, k * 4 + 1, none⟩ = some (.int .u8 x.1) ∧ W.cell? ⟨g, k * 4 + 2, none⟩ = some (.int .u8 x.2) ∧ W.cell? ⟨g, k * 4 + 3, none⟩ = some (.slice a 0 c') := by
  have hn := h.len
  obtain ⟨P, h1, h2, h3, h4⟩ := h.row
  obtain ⟨hkl, _⟩ := List.getElem?_eq_some_iff.1 hk
  have hp : (P.map (·.1))[k]? = some ⟨4, x.1, (x.2 : Int), []⟩ := by rw [h3]; unfold wE; rw [List.getElem?_map, hk]; rfl
  rw [List.getElem?_map] at hp
  obtain ⟨p, hp, he⟩ := Option.map_eq_some_iff.1 hp
  obtain ⟨a, c', hs⟩ := h4 p (List.mem_of_getElem? hp)
  obtain ⟨e0, e1, e2, e3⟩ := evC_get P k p hp
  rcases h1.2 with ⟨rfl, h0⟩ | ⟨g, cap, cur, rfl, hg, hgb, _⟩
  · omega
  · refine ⟨g, cap, a, c', rfl, lt_of_block hgb, ?_, ?_, ?_, ?_⟩
    · rw [h1.cellAt _ (by omega), e0, he]
    · rw [h1.cellAt _ (by omega), e1, he]
    · rw [h1.cellAt _ (by omega), e2, he]
    · rw [h1.cellAt _ (by omega), e3, hs]
end Go.Proofs.Ytkolhjglehnigaa.Talk
namespace Go.Proofs.Ytkolhjglehnigaa.Talk
open Go.RowKit Base Opt Iac
set_option linter.unusedVariables false

theorem grown_high {s : Nat} {W W' : World} {v : Value} {X : List Int} (hu : OwnBytes s W v X) (hg : W.grownBy W' v.ownBlock) : Turn (fun k => s ≤ k) W W' :=
  ⟨hg.os, hg.tape, hg.output, hg.size, fun k hk hS => hg.block k hk fun e => hS (own_lt hu k e.symm).1⟩
theorem own_turn {s : Nat} {W W' : World} {v : Value} {X : List Int} {b : Nat} (hu : OwnBytes s W v X) (t : Turn (At b) W W') (hb : b < s) : OwnBytes s W' v X :=
  hu.keep fun g hs hl => t.block g hl fun e => by have : g = b := e; omega
def TurnK (bt bh bd be s : Nat) (nm : ByteArray) (MA MB : Nat → Bool) (SA SB : Nat → Nat) (w0 : World) (out : List Wd) (e : Ending) (w' : World) : Prop :=
  ∃ p nd D E, e = .returned p ∧ OwnBytes s w' p (flatW out) ∧ TW bt bh bd be s nm MA MB SA SB nd D E w0 w' ∧ D.state = 0 ∧ E.state = 0
/-- What a round of the terminal's finds. -/
def TermRel (bt bh bd be s s2 : Nat) (nm : ByteArray) (MA MB : Nat → Bool) (SA SB : Nat → Nat) (D E : Dec) (w : World) (vE : Value) (n : Nat) (L : List Wd) (v i : Value) (wr : World) : Prop :=
  ∃ k nd, k ≤ n ∧ i = .int .i64 (k : Nat) ∧ OwnBytes s wr v (flatW (runW MA SA (L.take k)).2) ∧ TW bt bh bd be s nm MA MB (runW MA SA (L.take k)).1 SB nd D E w wr ∧ WRow s2 wr vE n L
/-- What a round of the host's finds. -/
def HostRel (bt bh bd be s s2 : Nat) (nm : ByteArray) (MA MB : Nat → Bool) (SA SB : Nat → Nat) (nd : Bool) (D E : Dec) (w : World) (vE : Value) (n : Nat) (L : List Wd) (v i : Value) (wr : World) : Prop :=
  ∃ k, k ≤ n ∧ i = .int .i64 (k : Nat) ∧ OwnBytes s wr v (flatW (runW MB SB (L.take k)).2) ∧ TW bt bh bd be s nm MA MB SA (runW MB SB (L.take k)).1 nd D E w wr ∧ WRow s2 wr vE n L
set_option maxRecDepth 100000 in
set_option maxHeartbeats 8000000 in
theorem turn_any {bt bh bd be : Nat} {nm : ByteArray} {MA MB : Nat → Bool} {SA SB : Nat → Nat} {nd : Bool} {D E : Dec} {w : World} (v : Value) (L : List Wd) (hL : ∀ x ∈ L, WdOk x) (hlen : L.length ≤ 1000) (hA : Le5 SA) (hB : Le5 SB) (hnm : nm.size ≤ 1000)
    (hr : RowIn (fun k => k ≠ bd) .u8 w v (flatW L)) (h : TW bt bh bd be w.heap.size nm MA MB SA SB nd D E w w) (hD : D.state = 0) (hE : E.state = 0) :
    Calls Try.prog 79 #[.pointer (some ⟨bt, 0, none⟩), .pointer (some ⟨bh, 0, none⟩), .pointer (some ⟨bd, 0, none⟩), .pointer (some ⟨be, 0, none⟩), v] w (TurnK bt bh bd be w.heap.size nm MA MB (runW MA SA L).1 (runW MB SB (runW MA SA L).2).1 w (runW MB SB (runW MA SA L).2).2) := by
  have hze := (zero_of_info info_ev0).1
  obtain ⟨s, hs⟩ : ∃ s, s = w.heap.size := ⟨_, rfl⟩
  obtain ⟨R, hR⟩ : ∃ R, R = runW MA SA L := ⟨_, rfl⟩
  rw [← hR]
  obtain ⟨Q, hQ⟩ : ∃ Q, Q = runW MB SB R.2 := ⟨_, rfl⟩
  rw [← hQ]
  have HRR := Lib.hid hR
  have HQQ := Lib.hid hQ
  clear hR hQ
  have b1 := below_alloc w (.cells #[] 5)
  have o1 := own0 (s := w.heap.size) (w := w) (Nat.le_refl _)
  obtain ⟨W1, hW1⟩ : ∃ W1, W1 = w.alloc (.cells #[] 5) := ⟨_, rfl⟩
  rw [← hW1] at b1 o1
  rw [← hs] at o1 h ⊢
  have T1 := Lib.hid (h.below b1)
  have R1 := Lib.hid (hr.below b1)
  have O1 := Lib.hid o1
  have HW1 := Lib.hid hW1.symm
  have HS := Lib.hid hs.symm
  have HL := Lib.hid hL
  have HA := Lib.hid hA
  have HB := Lib.hid hB
  have HLEN := Lib.hid hlen
  obtain ⟨D1, hD1, hfeed⟩ := feed_words D hD L hL
  have HD1 := Lib.hid hD1
  have HE := Lib.hid hE
  have hfl : (flatW L).length ≤ 40000 := by rw [flatW_length]; omega
  have hdst : D.state ≤ 4 := by omega
  clear h hr b1 o1 hW1 hs hL hA hB hD1 hD hE hlen
  go_enter Try.func79, Try.ntmps79
  go_upto_region 2 with fail
  rw [HW1.out, HS.out]
  go_wp2_with fail
  refine (feed_any bd D _ (flatW L) W1 T1.out.dd hdst R1.out hfl).mono ?_
  rw [hfeed]
  rintro e W2 ⟨vE, P, rfl, hd2, hE2, hP2, hT2⟩
  have T2 := Lib.hid (T1.out.decD hT2 hd2)
  have WR2 := Lib.hid (WRow.mk' hE2 hP2)
  have O2 : Hid (OwnBytes s W2 (.slice (some ⟨s, 0, none⟩) 0 0) []) := Lib.hid (O1.out.keep fun g hg hl => hT2.block g hl fun e => by have := T1.out.ap.d; omega)
  obtain ⟨s2, hs2⟩ : ∃ s2, s2 = W1.heap.size := ⟨_, rfl⟩
  have HS2 : Hid (s ≤ s2) := Lib.hid (by rw [hs2]; exact T1.out.sz)
  rw [← hs2] at WR2
  have hln := WR2.out.len
  obtain ⟨n, hn⟩ : ∃ n, n = P.length := ⟨_, rfl⟩
  rw [← hn] at WR2 hln
  obtain ⟨va, vc, rfl⟩ := WR2.out.form
  have HLN := Lib.hid hln
  have hn1000 : n ≤ 1000 := by have := HLEN.out; omega
  clear hfeed hfl hdst hd2 hE2 hP2 hT2 T1 R1 O1 hs2 hn hln HW1
  go_upto_region 3 with fail
  go_loopw [11, 22] (fun v i wr => TermRel bt bh bd be s s2 nm MA MB SA SB D1 E w (.slice va n vc) n L v i wr) (fun _ i _ => n - (intOf i).toNat)
  case atStart => exact ⟨0, nd, by omega, rfl, O2.out, T2.out, WR2.out⟩
  case round =>
    obtain ⟨k, nd, hk, rfl, ho, ht, hw⟩ := hrel
    have HO := Lib.hid ho
    have HT := Lib.hid ht
    have HW := Lib.hid hw
    obtain ⟨oa, oc, rfl⟩ := ho.slice
    obtain ⟨l, hl⟩ : ∃ l, l = (flatW (runW MA SA (L.take k)).2).length := ⟨_, rfl⟩
    have hll : l ≤ 3000 := by
      have h1 := (run_le (M := MA) HA.out HL.out k).len
      rw [hl, flatW_length]
      have := HLEN.out
      omega
    rw [← hl] at HO ⊢
    have HLL := Lib.hid hl
    clear ho ht hw hl
    by_cases hkn : k < n
    · have hkl : k < L.length := by rw [← HLN.out]; exact hkn
      obtain ⟨x, hx⟩ : ∃ x, L[k]? = some x := ⟨_, List.getElem?_eq_getElem hkl⟩
      obtain ⟨g, c, a, c', e0, hg, c0, c1, c2, c3⟩ := HW.out.get k x hx
      injection e0 with e1 e2 e3
      subst e1 e3
      have hxo := HL.out x (List.mem_of_getElem? hx)
      have HXO := Lib.hid hxo
      have hrt := runW_take MA SA L k x hx
      have HRT := Lib.hid hrt
      have hkni : (k : Int) < (n : Int) := by omega
      have hk0 : (0 : Int) ≤ (k : Int) := Int.natCast_nonneg _
      clear hkl hx hxo hrt e2
      go_wp2_with fail
      refine (take_word (HT.out.below (below_alloc wr _)).tk (run_le (M := MA) HA.out HL.out k).le hnm x HXO.out a c').mono ?_
      rintro e W3 ⟨p, nd3, rfl, hp3, ht3, hu3⟩
      have T3 := Lib.hid ((HT.out.below (below_alloc wr (.cells #[.int .i64 4, .int .u8 x.1, .int .u8 x.2, .slice a 0 c'] 26))).talk hu3 ht3)
      have O3 := Lib.hid (own_turn (HO.out.below (below_alloc wr (.cells #[.int .i64 4, .int .u8 x.1, .int .u8 x.2, .slice a 0 c'] 26))) hu3 HT.out.ap.t)
      have W3R := Lib.hid ((HW.out.below (below_alloc wr (.cells #[.int .i64 4, .int .u8 x.1, .int .u8 x.2, .slice a 0 c'] 26))).turn hu3 fun k hk => by have : k = bt := hk; have := HT.out.ap.t; have := HS2.out; omega)
      have P3 := Lib.hid hp3
      obtain ⟨pa, pc, rfl, _⟩ := hp3
      have hpl : (flatW (gotW MA (runW MA SA (L.take k)).1 x).2).length ≤ 3 := by
        rw [flatW_length]
        have : (saidW (sideW x) (on2 (MA (mxb (sideW x) x.2)) (isOn x) ((runW MA SA (L.take k)).1 (ixb (sideW x) x.2))).2 x.2).length ≤ 1 := by unfold saidW; split <;> simp
        show 3 * (saidW _ _ _).length ≤ 3
        omega
      obtain ⟨pl, hpl2⟩ : ∃ pl, pl = (flatW (gotW MA (runW MA SA (L.take k)).1 x).2).length := ⟨_, rfl⟩
      rw [← hpl2] at P3 hpl ⊢
      have HPL := Lib.hid hpl2
      clear ht3 hu3 c0 c1 c2 c3 hpl2
      go_wp2_with (at_builtin; refine append_any rfl _ _ rfl (base := s) O3.out P3.out rfl rfl (by have := HLL.out; have := HPL.out; omega) T3.out.sz ?_; intro v' w4 hown hgrow)
      go_roundw
      case rel => exact ⟨k + 1, nd3, by omega, by go_num, by rw [HRT.out]; show OwnBytes s w4 v' (flatW (_ ++ _)); rw [flatW_append]; exact hown, by rw [HRT.out]; exact T3.out.high (grown_high O3.out hgrow), W3R.out.grown O3.out hgrow⟩
      case measure => simp [intOf]; omega
    · obtain rfl : n = k := by omega
      have htk : L.take n = L := List.take_of_length_le (by have := HLN.out; omega)
      have T4 := HT.out
      have O4 := HO.out
      have HLL2 := HLL.out
      rw [htk, ← HRR.out] at T4 O4 HLL2
      have hrun := runW_ok MA SA HA.out L HL.out
      rw [← HRR.out] at hrun
      have HRUN := Lib.hid hrun
      have T4 := Lib.hid T4
      have O4 := Lib.hid O4
      have hl4 : l ≤ 40000 := by omega
      have HL4 := Lib.hid HLL2
      clear htk hrun HT HO HLL HW HLL2
      have b5 := below_alloc wr (.cells #[] 5)
      have o5 := own0 (s := s) (w := wr) T4.out.sz
      obtain ⟨W5, hW5⟩ : ∃ W5, W5 = wr.alloc (.cells #[] 5) := ⟨_, rfl⟩
      obtain ⟨g5, hg5⟩ : ∃ g5, g5 = wr.heap.size := ⟨_, rfl⟩
      rw [← hW5] at b5 o5
      rw [← hg5] at o5
      have T5 := Lib.hid (T4.out.below b5)
      have O5 := Lib.hid o5
      have P5 : Hid (RowIn (fun k => k ≠ be) .u8 W5 (.slice oa l oc) (flatW R.2)) := Lib.hid ((O4.out.below b5).rowIn.mono fun k hk => by have := T4.out.ap.e; omega)
      have HG5 : Hid (s ≤ g5) := Lib.hid (by rw [hg5]; exact T4.out.sz)
      have HW5 := Lib.hid hW5.symm
      have HGE := Lib.hid hg5.symm
      obtain ⟨E1, hE1, hfeed⟩ := feed_words E HE.out R.2 HRUN.out.ok
      have HE1 := Lib.hid hE1
      have hfl : (flatW R.2).length ≤ 40000 := by rw [← HL4.out]; exact hl4
      have hest : E.state ≤ 4 := by have := HE.out; omega
      clear b5 o5 hW5 hg5 hE1 O4 T4 HL4
      go_upto_region 8 with fail
      rw [HW5.out, HGE.out]
      go_wp2_with fail
      refine (feed_any be E _ (flatW R.2) W5 T5.out.de hest P5.out hfl).mono ?_
      rw [hfeed]
      rintro e W6 ⟨vF, P, rfl, hd6, hE6, hP6, hT6⟩
      have T6 := Lib.hid (T5.out.decE hT6 hd6)
      have WR6 := Lib.hid (WRow.mk' hE6 hP6)
      have O6 : Hid (OwnBytes s W6 (.slice (some ⟨g5, 0, none⟩) 0 0) []) := Lib.hid (O5.out.keep fun g hg hl => hT6.block g hl fun e => by have := T5.out.ap.e; omega)
      obtain ⟨s3, hs3⟩ : ∃ s3, s3 = W5.heap.size := ⟨_, rfl⟩
      have HS3 : Hid (s ≤ s3) := Lib.hid (by rw [hs3]; exact T5.out.sz)
      rw [← hs3] at WR6
      have hln := WR6.out.len
      obtain ⟨m, hm⟩ : ∃ m, m = P.length := ⟨_, rfl⟩
      rw [← hm] at WR6 hln
      obtain ⟨fa, fc, rfl⟩ := WR6.out.form
      have HLM := Lib.hid hln
      have hm1000 : m ≤ 1000 := by have := HRUN.out.len; have := HLEN.out; omega
      clear hfeed hfl hest hd6 hE6 hP6 hT6 T5 O5 P5 hs3 hm hln HW5 hl4
      go_upto_region 9 with fail
      go_loopw [14, 37] (fun v i wr => HostRel bt bh bd be s s3 nm MA MB R.1 SB nd D1 E1 w (.slice fa m fc) m R.2 v i wr) (fun _ i _ => m - (intOf i).toNat)
      case atStart => exact ⟨0, by omega, rfl, O6.out, T6.out, WR6.out⟩
      case round =>
        obtain ⟨k, hk, rfl, ho, ht, hw⟩ := hrel
        have HO := Lib.hid ho
        have HT := Lib.hid ht
        have HW := Lib.hid hw
        obtain ⟨oa, oc, rfl⟩ := ho.slice
        obtain ⟨l, hl⟩ : ∃ l, l = (flatW (runW MB SB (R.2.take k)).2).length := ⟨_, rfl⟩
        have hll : l ≤ 3000 := by
          have h1 := (run_le (M := MB) HB.out HRUN.out.ok k).len
          rw [hl, flatW_length]
          have := HLM.out
          omega
        rw [← hl] at HO ⊢
        have HLL := Lib.hid hl
        clear ho ht hw hl
        by_cases hkn : k < m
        · have hkl : k < R.2.length := by rw [← HLM.out]; exact hkn
          obtain ⟨x, hx⟩ : ∃ x, R.2[k]? = some x := ⟨_, List.getElem?_eq_getElem hkl⟩
          obtain ⟨g, c, a, c', e0, hg, c0, c1, c2, c3⟩ := HW.out.get k x hx
          injection e0 with e1 e2 e3
          subst e1 e3
          have hxo := HRUN.out.ok x (List.mem_of_getElem? hx)
          have HXO := Lib.hid hxo
          have hrt := runW_take MB SB R.2 k x hx
          have HRT := Lib.hid hrt
          have hkni : (k : Int) < (m : Int) := by omega
          have hk0 : (0 : Int) ≤ (k : Int) := Int.natCast_nonneg _
          have hb7 := below_alloc wr (.cells #[.int .i64 4, .int .u8 x.1, .int .u8 x.2, .slice a 0 c'] 26)
          have T7 := Lib.hid (HT.out.below hb7)
          have O7 := Lib.hid (HO.out.below hb7)
          have W7R := Lib.hid (HW.out.below hb7)
          clear hkl hx hxo hrt e2 hb7
          go_wp2_with fail
          refine (got_word T7.out.oh (run_le (M := MB) HB.out HRUN.out.ok k).le x HXO.out).mono ?_
          rintro e W3 ⟨p, rfl, hp3, ht3, hu3⟩
          have T3 := Lib.hid (T7.out.host hu3 ht3)
          have O3 := Lib.hid (own_turn O7.out hu3 HT.out.ap.h)
          have W3R := Lib.hid (W7R.out.turn hu3 fun k hk => by have : k = bh := hk; have := HT.out.ap.h; have := HS3.out; omega)
          have P3 := Lib.hid hp3
          obtain ⟨pa, pc, rfl, _⟩ := hp3
          have hpl : (flatW (gotW MB (runW MB SB (R.2.take k)).1 x).2).length ≤ 3 := by
            rw [flatW_length]
            have : (saidW (sideW x) (on2 (MB (mxb (sideW x) x.2)) (isOn x) ((runW MB SB (R.2.take k)).1 (ixb (sideW x) x.2))).2 x.2).length ≤ 1 := by unfold saidW; split <;> simp
            show 3 * (saidW _ _ _).length ≤ 3
            omega
          obtain ⟨pl, hpl2⟩ : ∃ pl, pl = (flatW (gotW MB (runW MB SB (R.2.take k)).1 x).2).length := ⟨_, rfl⟩
          rw [← hpl2] at P3 hpl ⊢
          have HPL := Lib.hid hpl2
          clear ht3 hu3 c0 c1 c2 c3 hpl2
          go_wp2_with (at_builtin; refine append_any rfl _ _ rfl (base := s) O3.out P3.out rfl rfl (by have := HLL.out; have := HPL.out; omega) T3.out.sz ?_; intro v' w4 hown hgrow)
          go_roundw
          case rel => exact ⟨k + 1, by omega, by go_num, by rw [HRT.out]; show OwnBytes s w4 v' (flatW (_ ++ _)); rw [flatW_append]; exact hown, by rw [HRT.out]; exact T3.out.high (grown_high O3.out hgrow), W3R.out.grown O3.out hgrow⟩
          case measure => simp [intOf]; omega
        · obtain rfl : m = k := by omega
          have htk : R.2.take m = R.2 := List.take_of_length_le (by have := HLM.out; omega)
          have T8 := HT.out
          have O8 := HO.out
          rw [htk, ← HQQ.out] at T8 O8
          have T8 := Lib.hid T8
          have O8 := Lib.hid O8
          clear HT HO htk
          go_wp2_with fail
          go_ret
          exact ⟨_, nd, D1, E1, rfl, O8.out, T8.out, HD1.out, HE1.out⟩
end Go.Proofs.Ytkolhjglehnigaa.Talk
