/-
  The reference's Home, Open and Move.
-/
import Derived.Test.YtlcjiffnmpkndaaFlZw
import Derived.Test.YtlcjiffnmpkndaaFlI

namespace Go.Proofs.Ytlcjiffnmpkndaa.Pl
open Go.RowKit Go.Shelf Base
set_option linter.unusedVariables false
set_option linter.unusedSimpArgs false

/-- The document's plane in a box, and the row of all fields. -/
structure HmQ (w : World) (s gx n cap : Nat) (r c cur : Int) (L : List Cl) (vl : Value) (m : Nat) (W : World) : Prop where
  bx : W.heap[s]? = some (.cells #[.int .i64 r, .int .i64 c, .slice (some ⟨gx, 0, none⟩) n cap, .int .i64 cur] 29 (0, 0))
  rx : Rx W gx n cap L
  row : W.ownsRow 0 99 3 vl m (flatF (allL L))
  old : Below s w W
section
variable {w W W' : World} {s gx n cap : Nat} {r c cur : Int} {L : List Cl} {vl : Value} {m : Nat}
theorem HmQ.below (h : HmQ w s gx n cap r c cur L vl m W) (t : Below W.heap.size W W') : HmQ w s gx n cap r c cur L vl m W' :=
  ⟨(t.block _ (lt_of_block h.bx)).trans h.bx, h.rx.below t, row_turn h.row (S := fun _ => False) (Turn.of_below t) (fun _ _ => id), h.old.trans (t.mono (Nat.le_of_lt (lt_of_block h.bx)))⟩
theorem HmQ.q (h : HmQ w s gx n cap r c cur L vl m W) : W.cell? ⟨s, 0, none⟩ = some (.int .i64 r) ∧ W.cell? ⟨s, 1, none⟩ = some (.int .i64 c) ∧ W.cell? ⟨s, 2, none⟩ = some (.slice (some ⟨gx, 0, none⟩) n cap) ∧ W.cell? ⟨s, 3, none⟩ = some (.int .i64 cur) :=
  ⟨by simp [World.cell?, h.bx], by simp [World.cell?, h.bx], by simp [World.cell?, h.bx], by simp [World.cell?, h.bx]⟩
theorem HmQ.fd {gl capl i : Nat} (h : HmQ w s gx n cap r c cur L (.slice (some ⟨gl, 0, none⟩) m capl) m W) {f : Fd} (hm : m = (allL L).length) (hf : (allL L)[i]? = some f) : W.cell? ⟨gl, i * 3, none⟩ = some (.int .i64 f.s) ∧ W.cell? ⟨gl, i * 3 + 1, none⟩ = some (.int .i64 f.k) ∧ W.cell? ⟨gl, i * 3 + 2, none⟩ = some (.int .u8 f.a) := by
  have hi : i < m := by rw [hm]; exact (List.getElem?_eq_some_iff.1 hf).1
  obtain ⟨f0, f1, f2⟩ := rflatF_get _ i f hf
  exact ⟨(h.row.cellAt _ (by omega)).trans f0, (h.row.cellAt _ (by omega)).trans f1, (h.row.cellAt _ (by omega)).trans f2⟩
end
theorem rhome_at {L : List Cl} {i : Nat} {f : Fd} (hf : (allL L)[i]? = some f) (hg : goodF f = true) (hno : ∀ x ∈ (allL L).take i, goodF x = false) : homeL L = mv L.length f.s 1 := by
  unfold homeL
  obtain ⟨h1, h2⟩ := List.getElem?_eq_some_iff.1 hf
  have e : (allL L).find? goodF = some f := by
    rw [← List.take_append_drop i (allL L), List.find?_append, List.find?_eq_none.2 (fun x hx => by rw [hno x hx]; simp), List.drop_eq_getElem_cons h1, h2]
    simp [hg]
  rw [e]
theorem rhome_none {L : List Cl} (hno : ∀ x ∈ allL L, goodF x = false) : homeL L = 0 := by
  unfold homeL
  rw [List.find?_eq_none.2 (fun x hx => by rw [hno x hx]; simp)]
set_option maxRecDepth 100000 in
set_option maxHeartbeats 4000000 in
theorem rhome_any {w : World} {gx n cap : Nat} {L : List Cl} (r c cur : Int) (hx : Rx w gx n cap L) (hbo : BoL L) : Calls Try.prog 24 #[xV r c (.slice (some ⟨gx, 0, none⟩) n cap) cur] w fun e W =>
    e = .returned (.int .i64 (homeL L)) ∧ Below w.heap.size w W := by
  obtain ⟨W0, hW0⟩ : ∃ W0, W0 = w.alloc (.cells #[.int .i64 r, .int .i64 c, .slice (some ⟨gx, 0, none⟩) n cap, .int .i64 cur] 29) := ⟨_, rfl⟩
  have hb0 : W0.heap[w.heap.size]? = some (.cells #[.int .i64 r, .int .i64 c, .slice (some ⟨gx, 0, none⟩) n cap, .int .i64 cur] 29 (0, 0)) := by rw [hW0]; exact heap_alloc_new w _
  have hold : Below w.heap.size w W0 := by rw [hW0]; exact below_alloc _ _
  have hn := hx.most
  have hlen := hx.len
  have hrx0 : Rx W0 gx n cap L := hx.below hold
  have hall := rall_any r c cur hrx0 hbo
  unfold xV at hall
  have HALL := Lib.hid hall
  have HB0 := Lib.hid hb0
  have HOLD := Lib.hid hold
  have HRX := Lib.hid hrx0
  have HW0 := Lib.hid hW0.symm
  have HL := Lib.hid hlen
  have HBO := Lib.hid hbo
  obtain ⟨m, hm⟩ : ∃ m, m = (allL L).length := ⟨_, rfl⟩
  have hmn : m ≤ n := by have := allK_most L (fun _ => L) L.length; rw [hm, ← hlen]; exact this
  have HMM := Lib.hid hm
  clear hW0 hx hbo hlen hm hb0 hrx0 hall hold
  unfold xV
  go_enter Try.func24, Try.ntmps24
  go_wp2_with fail
  rw [HW0.out]
  refine HALL.out.mono ?_
  rintro e w1 ⟨vl, rfl, hrow, hb1⟩
  rw [← HMM.out] at hrow
  obtain ⟨al, capl, hvl, hsl⟩ := rrow_shape hrow
  subst hvl
  have HSL := Lib.hid hsl
  have H1 := Lib.hid (show HmQ w w.heap.size gx n cap r c cur L (.slice al m capl) m w1 from
    ⟨(hb1.block _ (lt_of_block HB0.out)).trans HB0.out, HRX.out.below hb1, hrow, HOLD.out.trans (hb1.mono (Nat.le_of_lt (lt_of_block HB0.out)))⟩)
  clear hrow hb1 hsl HALL HW0
  go_wp2_with fail
  go_loopw [4] (fun p wr => ∃ i : Nat, p = .int .i64 i ∧ i ≤ m ∧ HmQ w w.heap.size gx n cap r c cur L (.slice al m capl) m wr ∧ ∀ f ∈ (allL L).take i, goodF f = false) (fun p _ => m - (intOf p).toNat)
  case atStart => exact ⟨0, rfl, Nat.zero_le _, H1.out, fun f hf => by simp at hf⟩
  case round =>
    obtain ⟨i, rfl, him, hq, hno⟩ := hrel
    have HQ := Lib.hid hq
    have HNO := Lib.hid hno
    clear hno
    by_cases hi1 : i < m
    · have hi2 : (i : Int) < (m : Int) := by omega
      obtain ⟨gl, rfl⟩ := HSL.out (by omega)
      obtain ⟨f, hf⟩ : ∃ f, (allL L)[i]? = some f := ⟨_, List.getElem?_eq_getElem (by rw [← HMM.out]; exact hi1)⟩
      have HF := Lib.hid hf
      have hmem := List.mem_of_getElem? hf
      obtain ⟨e0, e1, e2⟩ := hq.fd HMM.out hf
      obtain ⟨q0, q1, q2, q3⟩ := hq.q
      obtain ⟨p, p0, p1, p2, p3⟩ := mem_allL hmem
      have hbd := begF_bd (L := L) (by omega) p
      have hs0 : 0 ≤ f.s ∧ f.s < n := by rw [p3, begF_s, ← HL.out]; exact ⟨p0, p1⟩
      have hfa : 0 ≤ f.a ∧ f.a ≤ 255 := by rw [p3]; exact begF_a L HBO.out p
      rw [← p3, HL.out] at hbd
      have HBIT := Lib.hid (fun W => Attr.rbit32 f.a W hfa.1 hfa.2)
      have hnxt : ∀ x ∈ (allL L).take (i + 1), x = f ∨ x ∈ (allL L).take i := by
        intro x hx
        obtain ⟨hi3, hi4⟩ := List.getElem?_eq_some_iff.1 hf
        rw [List.take_succ_eq_append_getElem hi3, List.mem_append] at hx
        rcases hx with hx | hx
        · exact .inr hx
        · exact .inl (by rw [List.mem_singleton.1 hx, hi4])
      have HNX := Lib.hid hnxt
      clear hq hf hmem p0 p1 p2 p3 hnxt hfa
      by_cases hk : 0 < f.k
      · cases hpr : Attr.prot f.a with
        | false =>
          have hgd : goodF f = true := by unfold goodF; rw [hpr]; simpa using hk
          have HH := Lib.hid (rhome_at HF.out hgd HNO.out)
          have hw : wrap64 (f.s + 1) = f.s + 1 := IntWalk.wrap64_in _ (by omega)
          have hwi : IntKind.i64.wrap (f.s + 1) = f.s + 1 := IntWalk.i64_in _ (by omega)
          have htm : (f.s + 1).tmod n = homeL L := by rw [HH.out]; unfold mv; rw [if_neg (by have := HL.out; omega), Int.tmod_eq_emod_of_nonneg (by omega), HL.out]
          have hh0 : 0 ≤ homeL L ∧ homeL L < n := by
            rw [← htm, Int.tmod_eq_emod_of_nonneg (by omega)]
            exact ⟨Int.emod_nonneg _ (by omega), Int.emod_lt_of_pos _ (by omega)⟩
          obtain ⟨hm2, hhm⟩ : ∃ y, y = homeL L := ⟨_, rfl⟩
          rw [← hhm] at htm hh0
          have hwh : IntKind.i64.wrap hm2 = hm2 := IntWalk.i64_in _ (by omega)
          have hza : ((n : Int) == 0) = false := by simp; omega
          have hzb : ¬ n = 0 := by omega
          have hzc : ¬ (n : Int) = 0 := by omega
          have HHM := Lib.hid hhm
          rw [hpr] at HBIT
          clear hpr hgd hhm
          go_wp2_with (go_at_call 66; (with_reducible refine (HBIT.out _).mono ?_); rintro e w' ⟨rfl, rfl⟩)
          go_quiet (fail)
          go_wp2
          go_ret
          rw [← HHM.out]
          exact ⟨rfl, HQ.out.below (below_dn _ _) |>.old⟩
        | true =>
          have HGD := Lib.hid (show goodF f = false by unfold goodF; rw [hpr]; simp)
          rw [hpr] at HBIT
          clear hpr
          go_wp2_with (go_at_call 66; (with_reducible refine (HBIT.out _).mono ?_); rintro e w' ⟨rfl, rfl⟩)
          exact ⟨⟨i + 1, by go_num, by omega, HQ.out, fun x hx => (HNX.out x hx).elim (fun e => by rw [e]; exact HGD.out) (HNO.out x)⟩, by simp [intOf]; omega⟩
      · have HGD := Lib.hid (show goodF f = false by unfold goodF; rw [decide_eq_false hk]; rfl)
        go_wp2_with fail
        exact ⟨⟨i + 1, by go_num, by omega, HQ.out, fun x hx => (HNX.out x hx).elim (fun e => by rw [e]; exact HGD.out) (HNO.out x)⟩, by simp [intOf]; omega⟩
    · obtain rfl : m = i := by omega
      have hi2 : ¬ (m : Int) < (m : Int) := by omega
      have HH := Lib.hid (rhome_none (L := L) (by have h := HNO.out; rwa [HMM.out, List.take_length] at h))
      clear hq
      go_wp2
      go_ret
      rw [HH.out]
      exact ⟨rfl, HQ.out.old⟩

theorem open_form {L : List Cl} {a : Int} (hr : 0 ≤ a ∧ a < L.length) : opnL L a = (!isF L a || (!((ofF L a).s == a) && !Attr.prot (ofF L a).a)) := by
  have hi : inL L.length a = true := by simp [inL]; omega
  unfold opnL isF ofF
  rw [hi, Bool.true_and]
  by_cases hb : befL L a = -1
  · simp [hb]
  · rw [if_neg hb]
    show _ = (!(befL L a != -1) || (!(befL L a == a) && !Attr.prot ((atL L (befL L a)).b % 64)))
    rw [prot_mod]
    simp [hb, bne]
set_option maxRecDepth 100000 in
set_option maxHeartbeats 4000000 in
theorem ropen_any {w : World} {gx n cap : Nat} {L : List Cl} (r c cur a : Int) (hx : Rx w gx n cap L) (hbo : BoL L) : Calls Try.prog 64 #[xV r c (.slice (some ⟨gx, 0, none⟩) n cap) cur, .int .i64 a] w fun e W =>
    e = .returned (.bool (opnL L a)) ∧ Below w.heap.size w W := by
  obtain ⟨W0, hW0⟩ : ∃ W0, W0 = w.alloc (.cells #[.int .i64 r, .int .i64 c, .slice (some ⟨gx, 0, none⟩) n cap, .int .i64 cur] 29) := ⟨_, rfl⟩
  have hb0 : W0.heap[w.heap.size]? = some (.cells #[.int .i64 r, .int .i64 c, .slice (some ⟨gx, 0, none⟩) n cap, .int .i64 cur] 29 (0, 0)) := by rw [hW0]; exact heap_alloc_new w _
  have hold : Below w.heap.size w W0 := by rw [hW0]; exact below_alloc _ _
  have hlen := hx.len
  have HRX := Lib.hid (hx.below hold)
  have hhas := rhas_any r c cur a (some ⟨gx, 0, none⟩) n cap W0
  have HB0 := Lib.hid hb0
  have HOLD := Lib.hid hold
  have HW0 := Lib.hid hW0.symm
  have HBO := Lib.hid hbo
  unfold xV at hhas ⊢
  by_cases hr : 0 ≤ a ∧ a < n
  · rw [decide_eq_true hr] at hhas
    have HHAS := Lib.hid hhas
    have hform := open_form (L := L) (a := a) (by rw [hlen]; exact hr)
    rw [hform]
    obtain ⟨f, hf⟩ : ∃ f, f = ofF L a := ⟨_, rfl⟩
    obtain ⟨bo, hbe⟩ : ∃ bo, bo = isF L a := ⟨_, rfl⟩
    have hfa : 0 ≤ f.a ∧ f.a ≤ 255 := by
      rw [hf]; unfold ofF; split
      · simp [fd0]
      · exact begF_a L hbo _
    rw [← hf, ← hbe]
    have HBIT := Lib.hid (fun W => Attr.rbit32 f.a W hfa.1 hfa.2)
    have HOF := Lib.hid (fun (X : World) (h : Rx X gx n cap L) => rof_any r c cur a h hbo)
    rw [← hf, ← hbe] at HOF
    unfold xV Fd.rval at HOF
    obtain ⟨pr, hpr⟩ : ∃ pr, pr = Attr.prot f.a := ⟨_, rfl⟩
    obtain ⟨ne, hne⟩ : ∃ ne, ne = (f.s == a) := ⟨_, rfl⟩
    rw [← hpr] at HBIT
    rw [← hpr, ← hne]
    have hne2 : (f.s != a) = !ne := by rw [hne]; rfl
    clear hW0 hx hhas hold hb0 hform hf hbe hfa hbo hlen hne hpr
    go_enter Try.func64, Try.ntmps64
    go_wp2_with fail
    rw [HW0.out]
    refine HHAS.out.mono ?_
    rintro e w1 ⟨rfl, hb1⟩
    have hbx := (hb1.block _ (lt_of_block HB0.out)).trans HB0.out
    have B1 := Lib.hid (HOLD.out.trans (hb1.mono (Nat.le_of_lt (lt_of_block HB0.out))))
    have HR1 := Lib.hid (HRX.out.below hb1)
    obtain ⟨q0, q1, q2, q3, _⟩ := blk4 hbx
    clear hb1 HHAS HW0 hbx
    cases bo <;> cases ne <;>
      (go_wp2_with (first
        | (go_at_call 63; (with_reducible refine (HOF.out _ HR1.out).mono ?_); rintro e w2 ⟨rfl, hb2⟩; have B2 := Lib.hid ((B1.out.trans (hb2.mono B1.out.size)).alloc (by have := B1.out.size; have := hb2.size; omega) (.cells #[.int .i64 f.s, .int .i64 f.k, .int .u8 f.a] 99)); clear hb2)
        | (go_at_call 66; (with_reducible refine (HBIT.out _).mono ?_); rintro e w' ⟨rfl, rfl⟩))
       go_ret
       exact ⟨by simp, B2.out⟩)
  · rw [decide_eq_false hr] at hhas
    have HHAS := Lib.hid hhas
    have ho : opnL L a = false := by unfold opnL; rw [show inL L.length a = false by simp [inL]; omega]; rfl
    rw [ho]
    clear hW0 hx hhas hold hb0 hbo
    go_enter Try.func64, Try.ntmps64
    go_wp2_with fail
    rw [HW0.out]
    refine HHAS.out.mono ?_
    rintro e w1 ⟨rfl, hb1⟩
    have B1 := Lib.hid (HOLD.out.trans (hb1.mono (Nat.le_of_lt (lt_of_block HB0.out))))
    clear hb1
    go_wp2
    go_ret
    exact ⟨rfl, B1.out⟩
section
attribute [local go_sem] Oper.semAt_some
theorem rmove_end (n s : Int) (k : Nat) (h0 : 1 ≤ n) (a b : Int) (hs : s = a.tmod n + b.tmod n + k * n) (hp : 0 ≤ s) : s.tmod n = mv n a b := by
  obtain ⟨a1, a2, a3⟩ := tmod_bd a n h0
  obtain ⟨b1, b2, b3⟩ := tmod_bd b n h0
  rw [Int.tmod_eq_emod_of_nonneg hp, hs, Int.add_mul_emod_self_right, Int.add_emod, a3, b3, ← Int.add_emod]
  unfold mv; rw [if_neg (by omega)]
theorem rmove_end' (n s : Int) (k : Nat) (h0 : 1 ≤ n) (a b : Int) (hs : s = a.tmod n + b.tmod n + k * n) (hp : 0 ≤ s) : s % n = mv n a b := by
  rw [← rmove_end n s k h0 a b hs hp, Int.tmod_eq_emod_of_nonneg hp]

set_option maxHeartbeats 400000 in
theorem rmove_any (r c a b n : Int) (w : World) (hn : Hid (cells r c = n)) (n0 : 0 ≤ n) (n1 : n ≤ 4096) :
    Calls Try.prog 62 #[.agg #[.int .i64 r, .int .i64 c], .int .i64 a, .int .i64 b] w fun e w' => e = .returned (.int .i64 (mv n a b)) ∧ Below w.heap.size w w' := by
  by_cases h : n = 0
  · subst h
    go_enter Try.func62, Try.ntmps62
    go_wp2_with (go_at_call 98; refine (rcells_is _ _ _ _ hn.out).mono ?_; rintro e w' ⟨rfl, hb⟩)
    go_ret
    exact ⟨rfl, below_box hb⟩
  · have n2 : 1 ≤ n := by omega
    have hz : (n == 0) = false := by simpa using h
    obtain ⟨a1, a2, _⟩ := tmod_bd a n n2
    obtain ⟨b1, b2, _⟩ := tmod_bd b n n2
    have hw : IntKind.i64.wrap (a.tmod n + b.tmod n) = a.tmod n + b.tmod n := IntWalk.i64_in _ (by omega)
    go_enter Try.func62, Try.ntmps62
    go_wp2_with (go_at_call 98; refine (rcells_is _ _ _ _ hn.out).mono ?_; rintro e w' ⟨rfl, hb⟩)
    go_quiet (fail)
    have HW := Lib.hid hw
    clear hw
    go_wp2
    go_loop [1] (fun t => ∃ (s : Int) (k : Nat), -2 * n < s ∧ s < 2 * n ∧ s = a.tmod n + b.tmod n + k * n ∧ t = .int .i64 s) (fun t => (2 * n - intOf t).toNat)
    case atStart => exact ⟨_, 0, by omega, by omega, by simp, rfl⟩
    case round =>
      obtain ⟨s, k, s1, s2, s3, rfl⟩ := hrel
      have S3 := Lib.hid s3
      clear s3 a1 a2 b1 b2
      by_cases hs : s < 0
      · go_wp2
        go_round
        case rel => exact ⟨s + n, k + 1, by omega, by omega, by rw [S3.out, Int.natCast_add, Int.add_mul]; omega, rfl⟩
        case measure => simp [intOf]; omega
      · have s4 : 0 ≤ s := by omega
        go_wp2
        go_ret
        exact ⟨ret_int (by first | exact rmove_end' n s k n2 a b S3.out s4 | exact rmove_end n s k n2 a b S3.out s4), below_drewN (below_box hb) _⟩

end
end Go.Proofs.Ytlcjiffnmpkndaa.Pl
