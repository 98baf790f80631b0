/-
  A talk beside the reference's in memory: what a round of the law holds.
-/
import Derived.Test.YtimidoaafllnkaaRTalkE
import Derived.Test.YtimidoaafllnkaaSame
namespace Go.Proofs.Ytimidoaafllnkaa.Talk
open Go.RowKit Base Opt Iac
set_option linter.unusedVariables false
set_option linter.unusedSimpArgs false

structure LQ (w : World) (b X : Nat) (nm : ByteArray) (M : Nat → Bool) (S : Nat → Nat) (ndp ndr : Bool) (x u v : Value) (R : List One) (A B : List Int) (Z : World) : Prop where
  tk : TalkAt Z b nm M S ndp
  box : Z.heap[X]? = some (.cells #[.string nm, x, u, v, .bool ndr] 48 (0, 0))
  row : OneRow (X + 1) Z x R
  ru : RowOf .u8 Z u A
  rv : RowOf .u8 Z v B
  hb : b < X
  old : Below w.heap.size w Z
  lo : w.heap.size ≤ b
structure FQ (w : World) (b X : Nat) (nm : ByteArray) (M : Nat → Bool) (S : Nat → Nat) (ndp ndr : Bool) (x u v : Value) (R : List One) (A B : List Int) (eb : Nat) (E : Array Value) (pg pw : Value) (Y1 Y2 : List Int) (Z : World) : Prop where
  lq : LQ w b X nm M S ndp ndr x u v R A B Z
  ev : Z.heap[eb]? = some (.cells E 26 (0, 0))
  hx : X < eb
  rg : RowOf .u8 Z pg Y1
  rw : RowOf .u8 Z pw Y2
section
variable {w Z Z' : World} {b X : Nat} {nm : ByteArray} {M : Nat → Bool} {S S' : Nat → Nat} {ndp ndr nd' : Bool} {x u v pg pw p : Value} {R R' : List One} {A B Y1 Y2 Y : List Int} {eb : Nat} {E : Array Value} {xa xa' ua va : Option Addr} {xn xc xn' xc' un uc vn vc : Nat}
theorem LQ.below (h : LQ w b X nm M S ndp ndr x u v R A B Z) (t : Below Z.heap.size Z Z') : LQ w b X nm M S ndp ndr x u v R A B Z' :=
  ⟨h.tk.below t, (t.block X (lt_of_block h.box)).trans h.box, h.row.below t, h.ru.below t, h.rv.below t, h.hb, h.old.trans (t.mono h.old.size), h.lo⟩
theorem row_talk (h : TalkAt Z b nm M S ndp) (hr : RowOf .u8 Z p Y) (t : Turn (At b) Z Z') : RowOf .u8 Z' p Y := row_at hr (fun o k => h.noByte o k) t
theorem LQ.talk (h : LQ w b X nm M S ndp ndr x u v R A B Z) (t : Turn (At b) Z Z') (k : TalkAt Z' b nm M S' nd') : LQ w b X nm M S' nd' ndr x u v R A B Z' := by
  have hb := h.hb
  exact ⟨k, (t.block X (lt_of_block h.box) (by unfold At; omega)).trans h.box, h.row.keep' fun g hg => t.block g (h.row.own_lt g hg) (by have := own_first h.row g hg; unfold At; omega), row_talk h.tk h.ru t, row_talk h.tk h.rv t, h.hb, h.old.trans (t.at_below h.old.size h.lo), h.lo⟩
theorem LQ.put (h : LQ w b X nm M S ndp ndr (.slice xa xn xc) (.slice ua un uc) (.slice va vn vc) R A B Z) (t : Turn (At X) Z Z') (hn : Z'.heap[X]? = some (.cells #[.string nm, .slice xa' xn' xc', .slice ua un uc, .slice va vn vc, .bool nd'] 48 (0, 0))) (hr : OneRow (X + 1) Z (.slice xa' xn' xc') R') :
    LQ w b X nm M S ndp nd' (.slice xa' xn' xc') (.slice ua un uc) (.slice va vn vc) R' A B Z' := by
  have hb := h.hb
  have hlo := h.lo
  exact ⟨h.tk.keep t (by unfold At; omega), hn, one_at hr h.box t, row_at h.ru (noByte_rt h.box) t, row_at h.rv (noByte_rt h.box) t, h.hb, h.old.trans (t.at_below h.old.size (by omega)), h.lo⟩
theorem LQ.c5 (h : LQ w b X nm M S ndp ndr x u v R A B Z) : Z.cell? ⟨X, 0, none⟩ = some (.string nm) ∧ Z.cell? ⟨X, 1, none⟩ = some x ∧ Z.cell? ⟨X, 2, none⟩ = some u ∧ Z.cell? ⟨X, 3, none⟩ = some v ∧ Z.cell? ⟨X, 4, none⟩ = some (.bool ndr) := by
  have := h.box
  exact ⟨by simp [World.cell?, this], by simp [World.cell?, this], by simp [World.cell?, this], by simp [World.cell?, this], by simp [World.cell?, this]⟩
theorem LQ.fr (h : LQ w b X nm M S ndp ndr x u v R A B Z) : ∀ o, Z.frozen? ⟨X, o, none⟩ = false := fun o => by simp [World.frozen?, h.box]
theorem FQ.below (h : FQ w b X nm M S ndp ndr x u v R A B eb E pg pw Y1 Y2 Z) (t : Below Z.heap.size Z Z') : FQ w b X nm M S ndp ndr x u v R A B eb E pg pw Y1 Y2 Z' :=
  ⟨h.lq.below t, (t.block eb (lt_of_block h.ev)).trans h.ev, h.hx, h.rg.below t, h.rw.below t⟩
theorem FQ.talk (h : FQ w b X nm M S ndp ndr x u v R A B eb E pg pw Y1 Y2 Z) (t : Turn (At b) Z Z') (k : TalkAt Z' b nm M S' nd') : FQ w b X nm M S' nd' ndr x u v R A B eb E pg pw Y1 Y2 Z' := by
  have hb := h.lq.hb
  have hx := h.hx
  exact ⟨h.lq.talk t k, (t.block eb (lt_of_block h.ev) (by unfold At; omega)).trans h.ev, h.hx, row_talk h.lq.tk h.rg t, row_talk h.lq.tk h.rw t⟩
theorem FQ.put (h : FQ w b X nm M S ndp ndr (.slice xa xn xc) (.slice ua un uc) (.slice va vn vc) R A B eb E pg pw Y1 Y2 Z) (t : Turn (At X) Z Z') (hn : Z'.heap[X]? = some (.cells #[.string nm, .slice xa' xn' xc', .slice ua un uc, .slice va vn vc, .bool nd'] 48 (0, 0))) (hr : OneRow (X + 1) Z (.slice xa' xn' xc') R') :
    FQ w b X nm M S ndp nd' (.slice xa' xn' xc') (.slice ua un uc) (.slice va vn vc) R' A B eb E pg pw Y1 Y2 Z' := by
  have hx := h.hx
  exact ⟨h.lq.put t hn hr, (t.block eb (lt_of_block h.ev) (by unfold At; omega)).trans h.ev, h.hx, row_at h.rg (noByte_rt h.lq.box) t, row_at h.rw (noByte_rt h.lq.box) t⟩
theorem FQ.s9 {e0 e1 e2 e3 : Value} (h : FQ w b X nm M S ndp ndr x u v R A B eb #[e0, e1, e2, e3] pg pw Y1 Y2 Z) : Z.cell? ⟨X, 0, none⟩ = some (.string nm) ∧ Z.cell? ⟨X, 1, none⟩ = some x ∧ Z.cell? ⟨X, 2, none⟩ = some u ∧ Z.cell? ⟨X, 3, none⟩ = some v ∧ Z.cell? ⟨X, 4, none⟩ = some (.bool ndr) ∧ Z.cell? ⟨eb, 0, none⟩ = some e0 ∧ Z.cell? ⟨eb, 1, none⟩ = some e1 ∧ Z.cell? ⟨eb, 2, none⟩ = some e2 ∧ Z.cell? ⟨eb, 3, none⟩ = some e3 := by
  obtain ⟨c0, c1, c2, c3, c4⟩ := h.lq.c5
  obtain ⟨d0, d1, d2, d3⟩ := boxed4 h.ev
  exact ⟨c0, c1, c2, c3, c4, d0, d1, d2, d3⟩
end
/-- A world that only grew. -/
def OB (Z0 Z : World) : Prop := Below Z0.heap.size Z0 Z
theorem OB.below {Z0 Z Z' : World} (h : OB Z0 Z) (t : Below Z.heap.size Z Z') : OB Z0 Z' := Below.trans h (t.mono h.size)
def BoxAt (g : Nat) (cs : Array Value) (Z0 Z : World) : Prop := Z.heap[g]? = some (.cells cs 48 (0, 0)) ∧ Z0.heap.size ≤ g
theorem BoxAt.below {g : Nat} {cs : Array Value} {Z0 Z Z' : World} (h : BoxAt g cs Z0 Z) (t : Below Z.heap.size Z Z') : BoxAt g cs Z0 Z' := ⟨(t.block g (lt_of_block h.1)).trans h.1, h.2⟩
/-- Behind the reference's Take: what it answered stands in a box and in a slot. -/
def Cut10 (w : World) (b X : Nat) (nm : ByteArray) (M : Nat → Bool) (S : Nat → Nat) (ndp ndr nd2 : Bool) (x u v : Value) (R R2 : List One) (A B : List Int) (eb : Nat) (E : Array Value) (pg : Value) (Y1 Y2 : List Int) (y pw : Value) (Z : World) : Prop :=
  ∃ (yb : Nat) (xa : Option Addr) (xn xc : Nat), y = .pointer (some ⟨yb, 0, none⟩) ∧ X < yb ∧ FQ w b X nm M S ndp ndr x u v R A B eb E pg pw Y1 Y2 Z ∧ OneRow (X + 1) Z (.slice xa xn xc) R2 ∧ Z.heap[yb]? = some (.cells #[.string nm, .slice xa xn xc, u, v, .bool nd2] 48 (0, 0))
/-- Behind a round's answers. -/
def AfterL (w : World) (b X : Nat) (nm : ByteArray) (M : Nat → Bool) (ndr : Bool) (u v : Value) (A B : List Int) (eb : Nat) (E : Array Value) (pg pw : Value) (Y : List Int) (k : Nat) (Z : World) : Prop :=
  ∃ (S : Nat → Nat) (ndp : Bool) (xa : Option Addr) (xn xc : Nat) (R : List One), FQ w b X nm M S ndp ndr (.slice xa xn xc) u v R A B eb E pg pw Y Y Z ∧ Like R S ∧ ndr = (ndp && typeOn S) ∧ R.length ≤ 2 * k + 2
/-- .. whatever the talk itself has noted of the name. -/
def GQ (w : World) (b X : Nat) (nm : ByteArray) (M : Nat → Bool) (S : Nat → Nat) (ndr : Bool) (x u v : Value) (R : List One) (A B : List Int) (eb : Nat) (E : Array Value) (pg pw : Value) (Y : List Int) (Z : World) : Prop :=
  ∃ ndp, FQ w b X nm M S ndp ndr x u v R A B eb E pg pw Y Y Z ∧ ndr = (ndp && typeOn S)
section
variable {w Z Z' : World} {b X : Nat} {nm : ByteArray} {M : Nat → Bool} {S : Nat → Nat} {ndr : Bool} {x u v pg pw : Value} {R : List One} {A B Y : List Int} {eb : Nat} {e0 e1 e2 e3 : Value}
theorem GQ.below {E : Array Value} (h : GQ w b X nm M S ndr x u v R A B eb E pg pw Y Z) (t : Below Z.heap.size Z Z') : GQ w b X nm M S ndr x u v R A B eb E pg pw Y Z' := by
  obtain ⟨n, hf, hn⟩ := h
  exact ⟨n, hf.below t, hn⟩
theorem GQ.s6 (h : GQ w b X nm M S ndr x u v R A B eb #[e0, e1, e2, e3] pg pw Y Z) : Z.cell? ⟨X, 0, none⟩ = some (.string nm) ∧ Z.cell? ⟨X, 1, none⟩ = some x ∧ Z.cell? ⟨X, 2, none⟩ = some u ∧ Z.cell? ⟨X, 3, none⟩ = some v ∧ Z.cell? ⟨X, 4, none⟩ = some (.bool ndr) ∧ Z.cell? ⟨eb, 2, none⟩ = some e2 := by
  obtain ⟨n, hf, hn⟩ := h
  obtain ⟨c0, c1, c2, c3, c4, _, _, d2, _⟩ := hf.s9
  exact ⟨c0, c1, c2, c3, c4, d2⟩
theorem GQ.row {E : Array Value} (h : GQ w b X nm M S ndr x u v R A B eb E pg pw Y Z) : OneRow (X + 1) Z x R ∧ RowOf .u8 Z pg Y ∧ RowOf .u8 Z pw Y := by
  obtain ⟨n, hf, _⟩ := h
  exact ⟨hf.lq.row, hf.rg, hf.rw⟩
variable {E : Array Value}
theorem gq_basic (h : GQ w b X nm M S ndr x u v R A B eb E pg pw Y Z) : Calls Try.prog 32 #[.pointer (some ⟨b, 0, none⟩)] Z fun e Z' => e = .returned (.bool (basicB S && ndr)) ∧ GQ w b X nm M S ndr x u v R A B eb E pg pw Y Z' := by
  obtain ⟨n, hf, hn⟩ := h
  refine (basic_any hf.lq.tk).mono ?_
  rintro e Z' ⟨rfl, hk, ht⟩
  refine ⟨by rw [hn], ?_⟩
  rcases hk with hk | hk
  · exact ⟨n, hf.talk ht hk, hn⟩
  · exact ⟨_, hf.talk ht hk, by rw [hn]; cases n <;> cases typeOn S <;> rfl⟩
theorem gq_named (h : GQ w b X nm M S ndr x u v R A B eb E pg pw Y Z) : Calls Try.prog 36 #[.pointer (some ⟨b, 0, none⟩)] Z fun e Z' => e = .returned (.bool ndr) ∧ GQ w b X nm M S ndr x u v R A B eb E pg pw Y Z' := by
  obtain ⟨n, hf, hn⟩ := h
  refine (named_any hf.lq.tk).mono ?_
  rintro e Z' ⟨rfl, hk, ht⟩
  exact ⟨by rw [hn], _, hf.talk ht hk, by rw [hn]; cases n <;> cases typeOn S <;> rfl⟩
theorem gq_options (h : GQ w b X nm M S ndr x u v R A B eb E pg pw Y Z) : Calls Try.prog 38 #[.pointer (some ⟨b, 0, none⟩)] Z fun e Z' => e = .returned (.pointer (some ⟨b, 1, none⟩)) ∧ GQ w b X nm M S ndr x u v R A B eb E pg pw Y Z' := by
  obtain ⟨n, hf, hn⟩ := h
  refine (options_any hf.lq.tk).mono ?_
  rintro e Z' ⟨rfl, hk, ht⟩
  exact ⟨rfl, _, hf.talk ht hk, by rw [hn]; cases n <;> cases typeOn S <;> rfl⟩
theorem gq_ext (h : GQ w b X nm M S ndr x u v R A B eb E pg pw Y Z) : Calls Try.prog 34 #[.pointer (some ⟨b, 0, none⟩)] Z fun e Z' => e = .returned (.bool (decide (stOf S true 40 = 1))) ∧ GQ w b X nm M S ndr x u v R A B eb E pg pw Y Z' := by
  obtain ⟨n, hf, hn⟩ := h
  refine (extended_any hf.lq.tk).mono ?_
  rintro e Z' ⟨rfl, rfl⟩
  exact ⟨rfl, n, hf, hn⟩
theorem gq_name (h : GQ w b X nm M S ndr x u v R A B eb E pg pw Y Z) : Calls Try.prog 37 #[.pointer (some ⟨b, 0, none⟩)] Z fun e Z' => e = .returned (.string nm) ∧ GQ w b X nm M S ndr x u v R A B eb E pg pw Y Z' := by
  obtain ⟨n, hf, hn⟩ := h
  refine (name_any hf.lq.tk).mono ?_
  rintro e Z' ⟨rfl, rfl⟩
  exact ⟨rfl, n, hf, hn⟩
theorem gq_state (o : Nat) (ho : o < 256) (h : GQ w b X nm M S ndr x u v R A B eb E pg pw Y Z) : Calls Try.prog 39 #[.pointer (some ⟨b, 1, none⟩), .bool true, .int .u8 o] Z fun e Z' => e = .returned (.int .i64 (stOf S true o)) ∧ GQ w b X nm M S ndr x u v R A B eb E pg pw Y Z' := by
  obtain ⟨n, hf, hn⟩ := h
  refine (state_talk true o ho hf.lq.tk).mono ?_
  rintro e Z' ⟨rfl, rfl⟩
  exact ⟨rfl, n, hf, hn⟩
end
theorem said3 (M : Nat → Bool) (S : Nat → Nat) (c : Int) (o : Nat) : (gotS M S c o).2.length ≤ 3 := by
  rcases got_said M S c o with h | ⟨k, _, _, h⟩ <;> rw [h] <;> simp
theorem wsaid3 (S : Nat → Nat) (c : Int) (o : Nat) : (wantS S c o).2.1.length ≤ 3 := by
  have key : ∀ ours w o, (sayL ours w o).length ≤ 3 := fun ours w o => by unfold sayL; split <;> simp
  unfold wantS
  repeat' split
  all_goals first | exact key _ _ _ | simp
theorem rgot3 (A B : List Int) (R : List One) (c : Int) (o : Nat) : (rgotR A B R c o).2.length ≤ 3 := by
  have key : ∀ ours w o, (sayL ours w o).length ≤ 3 := fun ours w o => by unfold sayL; split <;> simp
  unfold rgotR
  repeat' split
  all_goals first | exact key _ _ _ | simp
theorem rTake_len (nm : ByteArray) (h : nm.size ≤ 1000) (A B : List Int) (R : List One) (nd : Bool) (k c : Int) (o : Nat) (Lb : List Int) : (rTakeR nm A B R nd k c o Lb).2.2.length ≤ maxLen := by
  unfold rTakeR maxLen
  split
  · have := rgot3 A B R c o
    show (rgotR A B R c o).2.length ≤ _
    omega
  · split
    · simp [nums_length]; omega
    · simp
theorem evs_below {w w' : World} {v : Value} {L : List Ev} (h : EvsAt w v L) (t : Below w.heap.size w w') : EvsAt w' v L := by
  obtain ⟨a, cap, e, hr⟩ := h
  refine ⟨a, cap, e, fun hne => ?_⟩
  obtain ⟨g, off, e2, hg, hc⟩ := hr hne
  refine ⟨g, off, e2, Nat.lt_of_lt_of_le hg t.size, fun i x hi => ?_⟩
  obtain ⟨u, h0, h1, h2, h3, hu⟩ := hc i x hi
  exact ⟨u, (t.cell (p := ⟨g, off + i * 4, none⟩) hg).trans h0, (t.cell (p := ⟨g, off + i * 4 + 1, none⟩) hg).trans h1, (t.cell (p := ⟨g, off + i * 4 + 2, none⟩) hg).trans h2, (t.cell (p := ⟨g, off + i * 4 + 3, none⟩) hg).trans h3, hu.below t⟩
theorem typeOn_leave (S : Nat → Nat) : typeOn (wantS S 252 40).1 = typeOn S := by
  unfold typeOn stOf wantS
  simp [upd]
theorem basics {R : List One} {S : Nat → Nat} (h : Like R S) (nd : Bool) : rbasicB nd R = (basicB S && nd) := by
  unfold rbasicB basicB
  rw [h.same true 0 (by omega), h.same false 0 (by omega), h.same true 25 (by omega), h.same false 25 (by omega)]
  cases nd <;> cases decide (stOf S true 0 = 1) <;> cases decide (stOf S false 0 = 1) <;> cases decide (stOf S true 25 = 1) <;> cases decide (stOf S false 25 = 1) <;> rfl
theorem rwant_n (base na nb : Nat) (v : Value) (ya za : Option Addr) (yc zc : Nat) (L : List One) (A B : List Int) (hna : na = A.length) (hnb : nb = B.length) (w : World) (h : OneRow base w v L) (hl : L.length ≤ 200) (hst : ∀ ours, stL L ours 40 ≤ 5)
    (hy : RowOf .u8 w (.slice ya na yc) A) (hz : RowOf .u8 w (.slice za nb zc) B) (hA : A.length ≤ maxLen) (hB : B.length ≤ maxLen) (hbase : base ≤ w.heap.size) :
    Calls Try.prog 31 #[.agg #[v, .slice ya na yc, .slice za nb zc], .int .u8 252, .int .u8 40] w (WantR base (.slice ya na yc) (.slice za nb zc) (rwantR L 252 40).1 (rwantR L 252 40).2.1 (rwantR L 252 40).2.2 w) := by
  subst hna hnb
  exact rwant_any base v ya za yc zc L A B 252 40 w h hl hst (by omega) hy hz hA hB hbase
end Go.Proofs.Ytimidoaafllnkaa.Talk
