/-
  The first word on its way comes to a side.
-/
import Derived.Test.YtkolhjglehnigaaLineB
import Derived.StillTailTactics
namespace Go.Proofs.Ytkolhjglehnigaa.Que
open Go.RowKit Base Opt
set_option linter.unusedVariables false

section
variable {w W : World} {l bA bB s n : Nat} {MA MB : Nat → Bool} {SA SB : Nat → Nat} {ab ba t : List Wd} {qA qB : Value} {x : Wd}
theorem WQ.first (h : WQ s W qA (x :: t)) : ∃ g off cap u, qA = .slice (some ⟨g, off, none⟩) (t.length + 1) cap ∧ t.length + 1 ≤ cap ∧ W.cell? ⟨g, off, none⟩ = some u ∧ RowIn (fun k => s ≤ k) .u8 W u [255, x.1, (x.2 : Int)] ∧
    (1 < cap → WQ s W (.slice (some ⟨g, off + 1, none⟩) t.length (cap - 1)) t ∧ blk (.slice (some ⟨g, off + 1, none⟩) t.length (cap - 1)) = blk qA) ∧ (cap = 1 → t = []) := by
  obtain ⟨us, h1, h2, h3⟩ := h
  obtain ⟨u, hu, hr⟩ := h3 0 x rfl
  cases us with
  | nil => simp at hu
  | cons u0 us =>
    obtain ⟨g, off, cap, rfl, hle, hc⟩ := h1.get 0 u hu
    have hl : us.length = t.length := by simpa using h2
    rw [List.length_cons, hl] at hle h1 ⊢
    refine ⟨g, off, cap, u, rfl, hle, hc, hr, fun h1c => ⟨⟨us, ?_, hl, fun i y hy => h3 (i + 1) y (by simpa using hy)⟩, ?_⟩, fun e => List.eq_nil_of_length_eq_zero (by omega)⟩
    · rw [← hl] at h1 ⊢
      exact h1.rest h1c
    · rw [blk_slice, blk_slice, if_neg (by omega), if_neg (by omega)]
set_option maxRecDepth 100000 in
set_option maxHeartbeats 4000000 in
theorem comeA_none (h : LN w l bA bB s MA MB SA SB ab [] n qA qB W) : Calls Try.prog 29 #[.pointer (some ⟨l, 0, none⟩), .int .i64 0] W fun e W' => e = .returned (.bool false) ∧ W = W' := by
  obtain ⟨c0, c1, c2, c3, c4, fz⟩ := h.cells
  obtain ⟨a, c, hq⟩ := h.wa.form
  have hq : qA = .slice a 0 c := hq
  subst hq
  clear h fz
  go_enter Try.func29, Try.ntmps29
  go_wp2_with fail
  go_ret
  exact ⟨rfl, rfl⟩
theorem sendB0 (h : LN w l bA bB s MA MB SA SB ab ba n qA qB W) (a : Option Addr) (c : Nat) :
    Calls Try.prog 31 #[.pointer (some ⟨l, 0, none⟩), .int .i64 1, .slice a 0 c] W fun e W' => e = .returned (.tuple #[]) ∧ W = W' := by
  clear h
  go_enter Try.func31, Try.ntmps31
  go_wp2_with fail
  refine bodyPost_end (results_none rfl _ _ _) rfl ?_
  exact ⟨rfl, rfl⟩
theorem comeB_none (h : LN w l bA bB s MA MB SA SB [] ba n qA qB W) : Calls Try.prog 29 #[.pointer (some ⟨l, 0, none⟩), .int .i64 1] W fun e W' => e = .returned (.bool false) ∧ W = W' := by
  obtain ⟨c0, c1, c2, c3, c4, fz⟩ := h.cells
  obtain ⟨a, c, hq⟩ := h.wb.form
  have hq : qB = .slice a 0 c := hq
  subst hq
  clear h fz
  go_enter Try.func29, Try.ntmps29
  go_wp2_with fail
  go_ret
  exact ⟨rfl, rfl⟩
theorem sendA0 (h : LN w l bA bB s MA MB SA SB ab ba n qA qB W) (a : Option Addr) (c : Nat) :
    Calls Try.prog 31 #[.pointer (some ⟨l, 0, none⟩), .int .i64 0, .slice a 0 c] W fun e W' => e = .returned (.tuple #[]) ∧ W = W' := by
  clear h
  go_enter Try.func31, Try.ntmps31
  go_wp2_with fail
  refine bodyPost_end (results_none rfl _ _ _) rfl ?_
  exact ⟨rfl, rfl⟩
theorem gotW_le (M : Nat → Bool) (S : Nat → Nat) (w : Wd) (h : Le5 S) (hw : WdOk w) : Le5 (gotW M S w).1 := by
  have := gotS_le (M := M) w.1 w.2 h
  rw [gotS_W M S w hw] at this
  exact this
theorem said_cases (M : Nat → Bool) (S : Nat → Nat) (w : Wd) : (gotW M S w).2 = [] ∨ ∃ y, (gotW M S w).2 = [y] := by
  unfold gotW saidW
  simp only
  split
  · exact .inl rfl
  · exact .inr ⟨_, rfl⟩
theorem want_cases (S : Nat → Nat) (w : Wd) : (wantW S w).2 = [] ∨ ∃ y, (wantW S w).2 = [y] := by
  unfold wantW saidW
  simp only
  split
  · exact .inl rfl
  · exact .inr ⟨_, rfl⟩
abbrev S3 (l i b ub uo : Nat) (x : Wd) (Z : World) : Prop := Z.cell? ⟨l, i, none⟩ = some (.pointer (some ⟨b, 0, none⟩)) ∧ Z.cell? ⟨ub, uo + 1, none⟩ = some (.int .u8 x.1) ∧ Z.cell? ⟨ub, uo + 2, none⟩ = some (.int .u8 x.2)
theorem keepG {i b ub uo : Nat} {W' : World} (c : W'.cell? ⟨l, i, none⟩ = some (.pointer (some ⟨b, 0, none⟩))) (u : Turn (At b) W W') (hne : ub ≠ b) (y1 : W.cell? ⟨ub, uo + 1, none⟩ = some (.int .u8 x.1)) (y2 : W.cell? ⟨ub, uo + 2, none⟩ = some (.int .u8 x.2)) : S3 l i b ub uo x W' := by
  have hlt := World.block_lt_of_cell? W ⟨ub, uo + 1, none⟩ y1
  exact ⟨c, (cell_block (u.block ub hlt hne) _).trans y1, (cell_block (u.block ub hlt hne) _).trans y2⟩
theorem keepS {i b ub uo : Nat} {W' : World} (c : W'.cell? ⟨l, i, none⟩ = some (.pointer (some ⟨b, 0, none⟩))) (k : SendS l W W') (hne : ub ≠ l) (h : S3 l i b ub uo x W) : S3 l i b ub uo x W' :=
  ⟨c, (cell_block (k _ _ _ hne h.2.1) _).trans h.2.1, (cell_block (k _ _ _ hne h.2.1) _).trans h.2.2⟩
theorem WQ.none0 (s : Nat) (w : World) (a : Option Addr) : WQ s w (.slice a 0 0) [] := ⟨[], .inl ⟨rfl, a, rfl⟩, rfl, fun i x h => by simp at h⟩
theorem LN.popA {qv : Value} {r : List Wd} (h : LN w l bA bB s MA MB SA SB ab ba n qA qB W) (hq : WQ s W qv r) (hb : blk qv = none ∨ blk qv = blk qA) : LN w l bA bB s MA MB SA SB ab r n qv qB ((W.setCell ⟨l, 2, none⟩ qv).drew) := by
  have ht : Turn (At l) W ((W.setCell ⟨l, 2, none⟩ qv).drew) := ⟨rfl, rfl, rfl, (turn_set W l 2 qv).size, (turn_set W l 2 qv).block⟩
  have hl := heap_set h.ln 2 qv
  refine h.lineA ht (by show (W.setCell ⟨l, 2, none⟩ qv).heap[l]? = _; simpa using hl) hq ?_
  have hne := h.ne
  have : blk qv = none ∨ blk qv ≠ blk qB := by
    rcases hb with e | e
    · exact .inl e
    · rw [e]; exact hne
  exact this
theorem gotA (h : LN w l bA bB s MA MB SA SB ab ba n qA qB W) (x : Wd) (hx : WdOk x) :
    Calls Try.prog 85 #[.pointer (some ⟨bA, 0, none⟩), .int .u8 x.1, .int .u8 x.2] W fun e W' => ∃ p, e = .returned p ∧ RowIn (fun k => s ≤ k) .u8 W' p (flatW (gotW MA SA x).2) ∧ LN w l bA bB s MA MB (gotW MA SA x).1 SB ab ba n qA qB W' ∧ Turn (At bA) W W' := by
  refine (got_any x.1 x.2 hx.2.2 h.oa h.la).mono ?_
  rw [gotS_W MA SA x hx]
  rintro e W' ⟨p, rfl, hp, ht, hu⟩
  exact ⟨p, rfl, hp.mono fun k hk => Nat.le_trans h.sz hk, h.turnA hu ht (gotW_le MA SA x h.la hx), hu⟩
theorem gotA0 (h : LN w l bA bB s MA MB SA SB ab ba n qA qB W) (x : Wd) (hx : WdOk x) (he : (gotW MA SA x).2 = []) :
    Calls Try.prog 85 #[.pointer (some ⟨bA, 0, none⟩), .int .u8 x.1, .int .u8 x.2] W fun e W' => ∃ pa pc, e = .returned (.slice pa 0 pc) ∧ LN w l bA bB s MA MB (gotW MA SA x).1 SB ab ba n qA qB W' ∧ Turn (At bA) W W' := by
  refine (gotA h x hx).mono ?_
  rw [he]
  rintro e W' ⟨p, rfl, ⟨pa, pc, rfl, _⟩, hl, ht⟩
  exact ⟨pa, pc, rfl, hl, ht⟩
set_option maxRecDepth 100000 in
set_option maxHeartbeats 4000000 in
theorem comeA_some (h : LN w l bA bB s MA MB SA SB ab (x :: t) n qA qB W) (hx : WdOk x) (hn : n ≤ 10000) (hl1 : ab.length ≤ 10000) (hl2 : t.length ≤ 10000) :
    Calls Try.prog 29 #[.pointer (some ⟨l, 0, none⟩), .int .i64 0] W fun e W' => e = .returned (.bool true) ∧ ∃ qA' qB', LN w l bA bB s MA MB (gotW MA SA x).1 SB (ab ++ (gotW MA SA x).2) t (n + (gotW MA SA x).2.length) qA' qB' W' ∧ ComeS l bA W W' := by
  obtain ⟨c0, c1, c2, c3, c4, fz⟩ := h.cells
  obtain ⟨g, off, cap, u, rfl, hle, hcu, hur, hrest, hone⟩ := h.wa.first
  obtain ⟨m, hm⟩ : ∃ m, m = t.length := ⟨_, rfl⟩
  obtain ⟨ua, uc, rfl, hrow⟩ := id hur
  obtain ⟨ub, uo, rfl, hsub, hubl, hbytes⟩ := hrow (by simp)
  have y1 : W.cell? ⟨ub, uo + 1, none⟩ = some (.int .u8 x.1) := hbytes 1 (by simp)
  have y2 : W.cell? ⟨ub, uo + 2, none⟩ = some (.int .u8 x.2) := hbytes 2 (by simp)
  replace hcu : W.cell? ⟨g, off, none⟩ = some (.slice (some ⟨ub, uo, none⟩) 3 uc) := hcu
  have f2 := fz 2
  rw [← hm] at hle hl2 h c2 hrest
  have H := Lib.hid h
  have HR := Lib.hid hrest
  have HO := Lib.hid hone
  have HM := Lib.hid hm
  have hm0 : (0 : Int) ≤ (m : Int) := Int.natCast_nonneg _
  have hmz : ((m : Int) + 1 == 0) = false := by simp; omega
  have hn5 : n ≤ 100000 := by omega
  have hl5 : ab.length ≤ 100000 := by omega
  have HUB : Hid (ub ≠ bA) := Lib.hid (by have := h.hA; omega)
  have HUL : Hid (ub ≠ l) := Lib.hid (by have := h.hl; omega)
  clear h hrow hbytes hrest hone hm fz hur
  have key : ∃ qv off', qv = .slice (some ⟨g, off', none⟩) m (cap - 1) ∧ (cap = 1 → off' = off) ∧ (¬ cap = 1 → off' = off + 1) ∧ LN w l bA bB s MA MB SA SB ab t n qv qB ((W.setCell ⟨l, 2, none⟩ qv).drew) := by
    by_cases hc1 : cap = 1
    · have ht := HO.out hc1
      subst ht
      obtain rfl : m = 0 := by have := HM.out; simpa using this
      refine ⟨_, off, rfl, fun _ => rfl, fun h => absurd hc1 h, H.out.popA (by rw [show cap - 1 = 0 by omega]; exact WQ.none0 s W _) (.inl (by rw [blk_slice, if_pos (by omega)]))⟩
    · obtain ⟨h1, h2⟩ := HR.out (by omega)
      exact ⟨_, off + 1, rfl, fun h => absurd h hc1, fun _ => rfl, H.out.popA h1 (.inr h2)⟩
  obtain ⟨qv, off', hqv, ho1, ho2, hln⟩ := key
  have z0 := hln.cells
  obtain ⟨z0, z1, _⟩ := z0
  have hd : ∀ o, ((W.setCell ⟨l, 2, none⟩ qv).drew).cell? ⟨ub, o, none⟩ = W.cell? ⟨ub, o, none⟩ := fun o => cell_block ((turn_set W l 2 qv).block ub hubl (fun e => HUL.out e)) _
  have y1' := (hd (uo + 1)).trans y1
  have y2' := (hd (uo + 2)).trans y2
  obtain ⟨W4, hW4⟩ : ∃ W4, W4 = (W.setCell ⟨l, 2, none⟩ qv).drew := ⟨_, rfl⟩
  rw [← hW4] at hln z0 z1 y1' y2'
  have HL4 := Lib.hid hln
  have HW4 := Lib.hid hW4.symm
  have HQV := Lib.hid hqv.symm
  have HL5 : Hid (LN w l bA bB s MA MB SA SB ab t n qv qB W4.drew) := Lib.hid (hln.below (Below.drew (Below.refl _ W4)))
  have HS5 : Hid (S3 l 0 bA ub uo x W4.drew) := Lib.hid ⟨z0, y1', y2'⟩
  have HT5 : Hid (Turn (At l) W W4.drew) := Lib.hid (by rw [hW4]; exact (turn_set W l 2 qv).trans (Turn.of_below (Below.drew (Below.drew (Below.refl _ _)))))
  clear hd hln hW4 hqv
  by_cases hc1 : cap = 1
  · obtain rfl := ho1 hc1
    subst hc1
    obtain rfl : m = 0 := by omega
    clear ho1 ho2
    go_enter Try.func29, Try.ntmps29
    go_upto_region 4 with fail
    go_region
    have HQV : Hid (Value.slice (some ⟨g, off', none⟩) 0 0 = qv) := HQV
    rw [HQV.out, HW4.out]
    go_upto_region 5 with fail
    rcases said_cases MA SA x with he | ⟨y, he⟩
    · have HE := Lib.hid he
      clear he
      first
      | (go_region_held3 (fun Z => Z.cell? ⟨l, 0, none⟩ = some (.pointer (some ⟨bA, 0, none⟩)) ∧ Z.cell? ⟨ub, uo + 1, none⟩ = some (.int .u8 x.1) ∧ Z.cell? ⟨ub, uo + 2, none⟩ = some (.int .u8 x.2))
          (with_reducible (first | assumption | exact HS5.out | exact HS6.out | exact HS7.out))
          (first
            | (go_at_call 85; refine (gotA0 HL5.out x hx HE.out).mono ?_; rintro e W6 ⟨pa, pc, rfl, hl6, hu6⟩; have HL6 := Lib.hid hl6; have HS6 := Lib.hid (keepG (i := 0) (x := x) hl6.cells.1 hu6 HUB.out y1' y2'); have HC6 := Lib.hid (comeG HT5.out hu6); clear hl6 hu6)
            | (go_at_call 31; refine (sendA0 HL6.out _ _).mono ?_; rintro e W' ⟨rfl, rfl⟩)))
      | fail
      all_goals
        go_wp2_with fail
        go_ret
        refine ⟨rfl, qv, qB, ?_, HC6.out⟩
        rw [HE.out, List.append_nil]
        exact HL6.out
    · have HE := Lib.hid he
      clear he
      first
      | (go_region_held3 (fun Z => Z.cell? ⟨l, 0, none⟩ = some (.pointer (some ⟨bA, 0, none⟩)) ∧ Z.cell? ⟨ub, uo + 1, none⟩ = some (.int .u8 x.1) ∧ Z.cell? ⟨ub, uo + 2, none⟩ = some (.int .u8 x.2))
          (with_reducible (first | assumption | exact HS5.out | exact HS6.out | exact HS7.out))
          (first
            | (go_at_call 85; refine (gotA HL5.out x hx).mono ?_; rw [HE.out]; rintro e W6 ⟨p, rfl, hp6, hl6, hu6⟩; have HP6 : Hid (RowIn (fun k => s ≤ k) .u8 W6 p [255, y.1, (y.2 : Int)]) := Lib.hid hp6; have HL6 := Lib.hid hl6; have HS6 := Lib.hid (keepG (i := 0) (x := x) hl6.cells.1 hu6 HUB.out y1' y2'); have HC6 := Lib.hid (comeG HT5.out hu6); clear hl6 hu6 hp6)
            | (go_at_call 31; refine (sendA1 HL6.out p y HP6.out hn5 hl5).mono ?_; rintro e W7 ⟨rfl, q7, hl7, hk7⟩; have HL7 := Lib.hid hl7; have HS7 := Lib.hid (keepS (x := x) hl7.cells.1 hk7 HUL.out HS6.out); have HC7 := Lib.hid (comeC HC6.out hk7); clear hl7 hk7)))
      | fail
      all_goals
        go_wp2_with fail
        go_ret
        refine ⟨rfl, qv, q7, ?_, HC7.out⟩
        rw [HE.out]
        exact HL7.out
  · obtain rfl := ho2 hc1
    clear ho1 ho2
    go_enter Try.func29, Try.ntmps29
    go_upto_region 4 with fail
    go_region
    rw [HQV.out, HW4.out]
    go_upto_region 5 with fail
    rcases said_cases MA SA x with he | ⟨y, he⟩
    · have HE := Lib.hid he
      clear he
      first
      | (go_region_held3 (fun Z => Z.cell? ⟨l, 0, none⟩ = some (.pointer (some ⟨bA, 0, none⟩)) ∧ Z.cell? ⟨ub, uo + 1, none⟩ = some (.int .u8 x.1) ∧ Z.cell? ⟨ub, uo + 2, none⟩ = some (.int .u8 x.2))
          (with_reducible (first | assumption | exact HS5.out | exact HS6.out | exact HS7.out))
          (first
            | (go_at_call 85; refine (gotA0 HL5.out x hx HE.out).mono ?_; rintro e W6 ⟨pa, pc, rfl, hl6, hu6⟩; have HL6 := Lib.hid hl6; have HS6 := Lib.hid (keepG (i := 0) (x := x) hl6.cells.1 hu6 HUB.out y1' y2'); have HC6 := Lib.hid (comeG HT5.out hu6); clear hl6 hu6)
            | (go_at_call 31; refine (sendA0 HL6.out _ _).mono ?_; rintro e W' ⟨rfl, rfl⟩)))
      | fail
      all_goals
        go_wp2_with fail
        go_ret
        refine ⟨rfl, qv, qB, ?_, HC6.out⟩
        rw [HE.out, List.append_nil]
        exact HL6.out
    · have HE := Lib.hid he
      clear he
      first
      | (go_region_held3 (fun Z => Z.cell? ⟨l, 0, none⟩ = some (.pointer (some ⟨bA, 0, none⟩)) ∧ Z.cell? ⟨ub, uo + 1, none⟩ = some (.int .u8 x.1) ∧ Z.cell? ⟨ub, uo + 2, none⟩ = some (.int .u8 x.2))
          (with_reducible (first | assumption | exact HS5.out | exact HS6.out | exact HS7.out))
          (first
            | (go_at_call 85; refine (gotA HL5.out x hx).mono ?_; rw [HE.out]; rintro e W6 ⟨p, rfl, hp6, hl6, hu6⟩; have HP6 : Hid (RowIn (fun k => s ≤ k) .u8 W6 p [255, y.1, (y.2 : Int)]) := Lib.hid hp6; have HL6 := Lib.hid hl6; have HS6 := Lib.hid (keepG (i := 0) (x := x) hl6.cells.1 hu6 HUB.out y1' y2'); have HC6 := Lib.hid (comeG HT5.out hu6); clear hl6 hu6 hp6)
            | (go_at_call 31; refine (sendA1 HL6.out p y HP6.out hn5 hl5).mono ?_; rintro e W7 ⟨rfl, q7, hl7, hk7⟩; have HL7 := Lib.hid hl7; have HS7 := Lib.hid (keepS (x := x) hl7.cells.1 hk7 HUL.out HS6.out); have HC7 := Lib.hid (comeC HC6.out hk7); clear hl7 hk7)))
      | fail
      all_goals
        go_wp2_with fail
        go_ret
        refine ⟨rfl, qv, q7, ?_, HC7.out⟩
        rw [HE.out]
        exact HL7.out
theorem LN.popB {qv : Value} {r : List Wd} (h : LN w l bA bB s MA MB SA SB ab ba n qA qB W) (hq : WQ s W qv r) (hb : blk qv = none ∨ blk qv = blk qB) : LN w l bA bB s MA MB SA SB r ba n qA qv ((W.setCell ⟨l, 3, none⟩ qv).drew) := by
  have ht : Turn (At l) W ((W.setCell ⟨l, 3, none⟩ qv).drew) := ⟨rfl, rfl, rfl, (turn_set W l 3 qv).size, (turn_set W l 3 qv).block⟩
  have hl := heap_set h.ln 3 qv
  refine h.lineB ht (by show (W.setCell ⟨l, 3, none⟩ qv).heap[l]? = _; simpa using hl) hq ?_
  have hne := ne_comm h.ne
  have : blk qv = none ∨ blk qv ≠ blk qA := by
    rcases hb with e | e
    · exact .inl e
    · rw [e]; exact hne
  exact ne_comm this
theorem gotB (h : LN w l bA bB s MA MB SA SB ab ba n qA qB W) (x : Wd) (hx : WdOk x) :
    Calls Try.prog 85 #[.pointer (some ⟨bB, 0, none⟩), .int .u8 x.1, .int .u8 x.2] W fun e W' => ∃ p, e = .returned p ∧ RowIn (fun k => s ≤ k) .u8 W' p (flatW (gotW MB SB x).2) ∧ LN w l bA bB s MA MB SA (gotW MB SB x).1 ab ba n qA qB W' ∧ Turn (At bB) W W' := by
  refine (got_any x.1 x.2 hx.2.2 h.ob h.lb).mono ?_
  rw [gotS_W MB SB x hx]
  rintro e W' ⟨p, rfl, hp, ht, hu⟩
  exact ⟨p, rfl, hp.mono fun k hk => Nat.le_trans h.sz hk, h.turnB hu ht (gotW_le MB SB x h.lb hx), hu⟩
theorem gotB0 (h : LN w l bA bB s MA MB SA SB ab ba n qA qB W) (x : Wd) (hx : WdOk x) (he : (gotW MB SB x).2 = []) :
    Calls Try.prog 85 #[.pointer (some ⟨bB, 0, none⟩), .int .u8 x.1, .int .u8 x.2] W fun e W' => ∃ pa pc, e = .returned (.slice pa 0 pc) ∧ LN w l bA bB s MA MB SA (gotW MB SB x).1 ab ba n qA qB W' ∧ Turn (At bB) W W' := by
  refine (gotB h x hx).mono ?_
  rw [he]
  rintro e W' ⟨p, rfl, ⟨pa, pc, rfl, _⟩, hl, ht⟩
  exact ⟨pa, pc, rfl, hl, ht⟩
set_option maxRecDepth 100000 in
set_option maxHeartbeats 4000000 in
theorem comeB_some (h : LN w l bA bB s MA MB SA SB (x :: t) ba n qA qB W) (hx : WdOk x) (hn : n ≤ 10000) (hl1 : ba.length ≤ 10000) (hl2 : t.length ≤ 10000) :
    Calls Try.prog 29 #[.pointer (some ⟨l, 0, none⟩), .int .i64 1] W fun e W' => e = .returned (.bool true) ∧ ∃ qA' qB', LN w l bA bB s MA MB SA (gotW MB SB x).1 t (ba ++ (gotW MB SB x).2) (n + (gotW MB SB x).2.length) qA' qB' W' ∧ ComeS l bB W W' := by
  obtain ⟨c0, c1, c2, c3, c4, fz⟩ := h.cells
  obtain ⟨g, off, cap, u, rfl, hle, hcu, hur, hrest, hone⟩ := h.wb.first
  obtain ⟨m, hm⟩ : ∃ m, m = t.length := ⟨_, rfl⟩
  obtain ⟨ua, uc, rfl, hrow⟩ := id hur
  obtain ⟨ub, uo, rfl, hsub, hubl, hbytes⟩ := hrow (by simp)
  have y1 : W.cell? ⟨ub, uo + 1, none⟩ = some (.int .u8 x.1) := hbytes 1 (by simp)
  have y2 : W.cell? ⟨ub, uo + 2, none⟩ = some (.int .u8 x.2) := hbytes 2 (by simp)
  replace hcu : W.cell? ⟨g, off, none⟩ = some (.slice (some ⟨ub, uo, none⟩) 3 uc) := hcu
  have f2 := fz 3
  rw [← hm] at hle hl2 h c3 hrest
  have H := Lib.hid h
  have HR := Lib.hid hrest
  have HO := Lib.hid hone
  have HM := Lib.hid hm
  have hm0 : (0 : Int) ≤ (m : Int) := Int.natCast_nonneg _
  have hmz : ((m : Int) + 1 == 0) = false := by simp; omega
  have hn5 : n ≤ 100000 := by omega
  have hl5 : ba.length ≤ 100000 := by omega
  have HUB : Hid (ub ≠ bB) := Lib.hid (by have := h.hB; omega)
  have HUL : Hid (ub ≠ l) := Lib.hid (by have := h.hl; omega)
  clear h hrow hbytes hrest hone hm fz hur
  have key : ∃ qv off', qv = .slice (some ⟨g, off', none⟩) m (cap - 1) ∧ (cap = 1 → off' = off) ∧ (¬ cap = 1 → off' = off + 1) ∧ LN w l bA bB s MA MB SA SB t ba n qA qv ((W.setCell ⟨l, 3, none⟩ qv).drew) := by
    by_cases hc1 : cap = 1
    · have ht := HO.out hc1
      subst ht
      obtain rfl : m = 0 := by have := HM.out; simpa using this
      refine ⟨_, off, rfl, fun _ => rfl, fun h => absurd hc1 h, H.out.popB (by rw [show cap - 1 = 0 by omega]; exact WQ.none0 s W _) (.inl (by rw [blk_slice, if_pos (by omega)]))⟩
    · obtain ⟨h1, h2⟩ := HR.out (by omega)
      exact ⟨_, off + 1, rfl, fun h => absurd h hc1, fun _ => rfl, H.out.popB h1 (.inr h2)⟩
  obtain ⟨qv, off', hqv, ho1, ho2, hln⟩ := key
  have z0 := hln.cells
  obtain ⟨z0, z1, _⟩ := z0
  have hd : ∀ o, ((W.setCell ⟨l, 3, none⟩ qv).drew).cell? ⟨ub, o, none⟩ = W.cell? ⟨ub, o, none⟩ := fun o => cell_block ((turn_set W l 3 qv).block ub hubl (fun e => HUL.out e)) _
  have y1' := (hd (uo + 1)).trans y1
  have y2' := (hd (uo + 2)).trans y2
  obtain ⟨W4, hW4⟩ : ∃ W4, W4 = (W.setCell ⟨l, 3, none⟩ qv).drew := ⟨_, rfl⟩
  rw [← hW4] at hln z0 z1 y1' y2'
  have HL4 := Lib.hid hln
  have HW4 := Lib.hid hW4.symm
  have HQV := Lib.hid hqv.symm
  have HL5 : Hid (LN w l bA bB s MA MB SA SB t ba n qA qv W4.drew) := Lib.hid (hln.below (Below.drew (Below.refl _ W4)))
  have HS5 : Hid (S3 l 1 bB ub uo x W4.drew) := Lib.hid ⟨z1, y1', y2'⟩
  have HT5 : Hid (Turn (At l) W W4.drew) := Lib.hid (by rw [hW4]; exact (turn_set W l 3 qv).trans (Turn.of_below (Below.drew (Below.drew (Below.refl _ _)))))
  clear hd hln hW4 hqv
  by_cases hc1 : cap = 1
  · obtain rfl := ho1 hc1
    subst hc1
    obtain rfl : m = 0 := by omega
    clear ho1 ho2
    go_enter Try.func29, Try.ntmps29
    go_upto_region 4 with fail
    go_region
    have HQV : Hid (Value.slice (some ⟨g, off', none⟩) 0 0 = qv) := HQV
    rw [HQV.out, HW4.out]
    go_upto_region 5 with fail
    rcases said_cases MB SB x with he | ⟨y, he⟩
    · have HE := Lib.hid he
      clear he
      first
      | (go_region_held3 (fun Z => Z.cell? ⟨l, 1, none⟩ = some (.pointer (some ⟨bB, 0, none⟩)) ∧ Z.cell? ⟨ub, uo + 1, none⟩ = some (.int .u8 x.1) ∧ Z.cell? ⟨ub, uo + 2, none⟩ = some (.int .u8 x.2))
          (with_reducible (first | assumption | exact HS5.out | exact HS6.out | exact HS7.out))
          (first
            | (go_at_call 85; refine (gotB0 HL5.out x hx HE.out).mono ?_; rintro e W6 ⟨pa, pc, rfl, hl6, hu6⟩; have HL6 := Lib.hid hl6; have HS6 := Lib.hid (keepG (i := 1) (x := x) hl6.cells.2.1 hu6 HUB.out y1' y2'); have HC6 := Lib.hid (comeG HT5.out hu6); clear hl6 hu6)
            | (go_at_call 31; refine (sendB0 HL6.out _ _).mono ?_; rintro e W' ⟨rfl, rfl⟩)))
      | fail
      all_goals
        go_wp2_with fail
        go_ret
        refine ⟨rfl, qA, qv, ?_, HC6.out⟩
        rw [HE.out, List.append_nil]
        exact HL6.out
    · have HE := Lib.hid he
      clear he
      first
      | (go_region_held3 (fun Z => Z.cell? ⟨l, 1, none⟩ = some (.pointer (some ⟨bB, 0, none⟩)) ∧ Z.cell? ⟨ub, uo + 1, none⟩ = some (.int .u8 x.1) ∧ Z.cell? ⟨ub, uo + 2, none⟩ = some (.int .u8 x.2))
          (with_reducible (first | assumption | exact HS5.out | exact HS6.out | exact HS7.out))
          (first
            | (go_at_call 85; refine (gotB HL5.out x hx).mono ?_; rw [HE.out]; rintro e W6 ⟨p, rfl, hp6, hl6, hu6⟩; have HP6 : Hid (RowIn (fun k => s ≤ k) .u8 W6 p [255, y.1, (y.2 : Int)]) := Lib.hid hp6; have HL6 := Lib.hid hl6; have HS6 := Lib.hid (keepG (i := 1) (x := x) hl6.cells.2.1 hu6 HUB.out y1' y2'); have HC6 := Lib.hid (comeG HT5.out hu6); clear hl6 hu6 hp6)
            | (go_at_call 31; refine (sendB1 HL6.out p y HP6.out hn5 hl5).mono ?_; rintro e W7 ⟨rfl, q7, hl7, hk7⟩; have HL7 := Lib.hid hl7; have HS7 := Lib.hid (keepS (x := x) hl7.cells.2.1 hk7 HUL.out HS6.out); have HC7 := Lib.hid (comeC HC6.out hk7); clear hl7 hk7)))
      | fail
      all_goals
        go_wp2_with fail
        go_ret
        refine ⟨rfl, q7, qv, ?_, HC7.out⟩
        rw [HE.out]
        exact HL7.out
  · obtain rfl := ho2 hc1
    clear ho1 ho2
    go_enter Try.func29, Try.ntmps29
    go_upto_region 4 with fail
    go_region
    rw [HQV.out, HW4.out]
    go_upto_region 5 with fail
    rcases said_cases MB SB x with he | ⟨y, he⟩
    · have HE := Lib.hid he
      clear he
      first
      | (go_region_held3 (fun Z => Z.cell? ⟨l, 1, none⟩ = some (.pointer (some ⟨bB, 0, none⟩)) ∧ Z.cell? ⟨ub, uo + 1, none⟩ = some (.int .u8 x.1) ∧ Z.cell? ⟨ub, uo + 2, none⟩ = some (.int .u8 x.2))
          (with_reducible (first | assumption | exact HS5.out | exact HS6.out | exact HS7.out))
          (first
            | (go_at_call 85; refine (gotB0 HL5.out x hx HE.out).mono ?_; rintro e W6 ⟨pa, pc, rfl, hl6, hu6⟩; have HL6 := Lib.hid hl6; have HS6 := Lib.hid (keepG (i := 1) (x := x) hl6.cells.2.1 hu6 HUB.out y1' y2'); have HC6 := Lib.hid (comeG HT5.out hu6); clear hl6 hu6)
            | (go_at_call 31; refine (sendB0 HL6.out _ _).mono ?_; rintro e W' ⟨rfl, rfl⟩)))
      | fail
      all_goals
        go_wp2_with fail
        go_ret
        refine ⟨rfl, qA, qv, ?_, HC6.out⟩
        rw [HE.out, List.append_nil]
        exact HL6.out
    · have HE := Lib.hid he
      clear he
      first
      | (go_region_held3 (fun Z => Z.cell? ⟨l, 1, none⟩ = some (.pointer (some ⟨bB, 0, none⟩)) ∧ Z.cell? ⟨ub, uo + 1, none⟩ = some (.int .u8 x.1) ∧ Z.cell? ⟨ub, uo + 2, none⟩ = some (.int .u8 x.2))
          (with_reducible (first | assumption | exact HS5.out | exact HS6.out | exact HS7.out))
          (first
            | (go_at_call 85; refine (gotB HL5.out x hx).mono ?_; rw [HE.out]; rintro e W6 ⟨p, rfl, hp6, hl6, hu6⟩; have HP6 : Hid (RowIn (fun k => s ≤ k) .u8 W6 p [255, y.1, (y.2 : Int)]) := Lib.hid hp6; have HL6 := Lib.hid hl6; have HS6 := Lib.hid (keepG (i := 1) (x := x) hl6.cells.2.1 hu6 HUB.out y1' y2'); have HC6 := Lib.hid (comeG HT5.out hu6); clear hl6 hu6 hp6)
            | (go_at_call 31; refine (sendB1 HL6.out p y HP6.out hn5 hl5).mono ?_; rintro e W7 ⟨rfl, q7, hl7, hk7⟩; have HL7 := Lib.hid hl7; have HS7 := Lib.hid (keepS (x := x) hl7.cells.2.1 hk7 HUL.out HS6.out); have HC7 := Lib.hid (comeC HC6.out hk7); clear hl7 hk7)))
      | fail
      all_goals
        go_wp2_with fail
        go_ret
        refine ⟨rfl, q7, qv, ?_, HC7.out⟩
        rw [HE.out]
        exact HL7.out
end
end Go.Proofs.Ytkolhjglehnigaa.Que
