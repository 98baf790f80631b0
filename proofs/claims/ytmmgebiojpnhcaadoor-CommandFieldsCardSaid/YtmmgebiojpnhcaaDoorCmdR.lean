/-
  Same's second closure; are two rows of fields the same?
-/
import Derived.Test.YtmmgebiojpnhcaaDoorCmdQ
namespace Go.Proofs.YtmmgebiojpnhcaaDoor.Cmd
open Go.RowKit Base Go.Proofs.YtmmgebiojpnhcaaDoor.Ord
set_option linter.unusedVariables false
set_option linter.unusedSimpArgs false

def Fl.cm (f : Fl) : Cm := ⟨f.kind, f.wcc, f.ords, f.err, []⟩
def sameFK (x y : Fl) : Bool := decide (x.id = y.id) && decide (x.op = y.op) && alikeK x.cm y.cm
theorem sameFK_eq (x y : Fl) : sameFK x y = true ↔ x = y := by
  cases x; cases y
  unfold sameFK alikeK Fl.cm
  simp only [Bool.and_eq_true, decide_eq_true_eq, Fl.mk.injEq]
  constructor
  · rintro ⟨⟨h1, h2⟩, ⟨⟨⟨h3, h4⟩, h5⟩, h6⟩, h7⟩; exact ⟨h1, h2, h3, h4, h6, h5⟩
  · rintro ⟨h1, h2, h3, h4, h6, h5⟩; exact ⟨⟨h1, h2⟩, ⟨⟨⟨h3, h4⟩, h5⟩, h6⟩, by simp⟩
instance : DecidableEq Fl := fun a b => decidable_of_iff _ (sameFK_eq a b)
instance : DecidableEq Cm := fun a b => decidable_of_iff (a.kind = b.kind ∧ a.wcc = b.wcc ∧ a.ords = b.ords ∧ a.err = b.err ∧ a.fields = b.fields) (by
  cases a; cases b
  simp)
theorem fl_r {w : World} {f : Fl} {vo : Value} (h : OrdsAt2 w vo f.ords) : CmR w f.cm (.agg #[.int .u8 f.kind, .int .u8 f.wcc, vo, .int .i64 f.err, .slice none 0 0]) :=
  ⟨vo, _, rfl, h, none, 0, rfl, fun h => absurd rfl h⟩
set_option maxRecDepth 100000 in
set_option maxHeartbeats 4000000 in
theorem same2_any {w : World} {x y : Fl} {vo vo2 : Value} {f : Nat} {p q : Addr} (h : OrdsAt2 w vo x.ords) (k : OrdsAt2 w vo2 y.ords) (hx : OsOk x.ords) (hy : OsOk y.ords) (hf : w.heap[f]? = some (.cells #[.func (.func 30) #[] #[.pointer (some p), .pointer (some q)]] 44 (0, 0))) :
    Calls Tryd.prog 32 #[.agg #[.int .u8 x.id, .int .u8 x.op, .int .u8 x.kind, .int .u8 x.wcc, vo, .int .i64 x.err, .slice none 0 0], .agg #[.int .u8 y.id, .int .u8 y.op, .int .u8 y.kind, .int .u8 y.wcc, vo2, .int .i64 y.err, .slice none 0 0], .pointer (some ⟨f, 0, none⟩)] w fun e w' => e = .returned (.bool (sameFK x y)) ∧ Below w.heap.size w w' := by
  have HR1 := Lib.hid (fl_r h)
  have HR2 := Lib.hid (fl_r k)
  obtain ⟨xi, xo, xk, xw, xs, xe⟩ := x
  obtain ⟨yi, yo, yk, yw, ys, ye⟩ := y
  simp only [Fl.cm] at HR1 HR2 hx hy ⊢
  have x1 := below_alloc w (.cells #[.int .u8 xi, .int .u8 xo, .int .u8 xk, .int .u8 xw, vo, .int .i64 xe, .slice none 0 0] 39)
  have y1 := heap_alloc_new w (.cells #[.int .u8 xi, .int .u8 xo, .int .u8 xk, .int .u8 xw, vo, .int .i64 xe, .slice none 0 0] 39)
  have z1 := World.size_alloc w (.cells #[.int .u8 xi, .int .u8 xo, .int .u8 xk, .int .u8 xw, vo, .int .i64 xe, .slice none 0 0] 39)
  obtain ⟨W1, hW1⟩ : ∃ W1, W1 = w.alloc (.cells #[.int .u8 xi, .int .u8 xo, .int .u8 xk, .int .u8 xw, vo, .int .i64 xe, .slice none 0 0] 39) := ⟨_, rfl⟩
  rw [← hW1] at x1 y1 z1
  have x2 := below_alloc W1 (.cells #[.int .u8 yi, .int .u8 yo, .int .u8 yk, .int .u8 yw, vo2, .int .i64 ye, .slice none 0 0] 39)
  have y2 := heap_alloc_new W1 (.cells #[.int .u8 yi, .int .u8 yo, .int .u8 yk, .int .u8 yw, vo2, .int .i64 ye, .slice none 0 0] 39)
  obtain ⟨W2, hW2⟩ : ∃ W2, W2 = W1.alloc (.cells #[.int .u8 yi, .int .u8 yo, .int .u8 yk, .int .u8 yw, vo2, .int .i64 ye, .slice none 0 0] 39) := ⟨_, rfl⟩
  rw [← hW2] at x2 y2
  have y3 := (x2.block _ (lt_of_block y1)).trans y1
  obtain ⟨s, hs⟩ : ∃ s, s = w.heap.size := ⟨_, rfl⟩
  have hold : Below w.heap.size w W2 := x1.trans (x2.mono x1.size)
  have hf2 := (hold.block _ (lt_of_block hf)).trans hf
  rw [← hs] at y3
  rw [z1, ← hs] at y2
  obtain ⟨R, hR⟩ : ∃ R, R = alikeK ⟨xk, xw, xs, xe, []⟩ ⟨yk, yw, ys, ye, []⟩ := ⟨_, rfl⟩
  have HS1 : Hid (Calls Tryd.prog 30 #[.agg #[.int .u8 xk, .int .u8 xw, vo, .int .i64 xe, .slice none 0 0], .agg #[.int .u8 yk, .int .u8 yw, vo2, .int .i64 ye, .slice none 0 0], .pointer (some p), .pointer (some q)] W2 fun e w' => e = .returned (.bool R) ∧ Below W2.heap.size W2 w') := Lib.hid (by rw [hR]; exact same1_quiet p q (HR1.out.below hold) (HR2.out.below hold) hx hy (.inr rfl))
  have hS : sameFK ⟨xi, xo, xk, xw, xs, xe⟩ ⟨yi, yo, yk, yw, ys, ye⟩ = (decide (xi = yi) && decide (xo = yo) && R) := by rw [hR]; rfl
  rw [hS]
  have HY2 := Lib.hid y2
  have HY3 := Lib.hid y3
  have HW1 := Lib.hid hW1.symm
  have HW2 := Lib.hid hW2.symm
  have HS := Lib.hid hs.symm
  have HO := Lib.hid hold
  have HF := Lib.hid hf2
  clear x1 y1 z1 x2 y2 y3 hW1 hW2 hs hold hf hf2 h k hx hy hR hS HR1 HR2
  obtain ⟨⟨q0, q1, q2, q3, q4, q5, q6⟩, _⟩ := cells7 HY3.out
  obtain ⟨⟨r0, r1, r2, r3, r4, r5, r6⟩, _⟩ := cells7 HY2.out
  obtain ⟨f0, _⟩ := cell1 HF.out
  by_cases t1 : xi = yi
  case neg =>
    have t1' : (xi == yi) = false := by simpa using t1
    rw [decide_eq_false t1]
    clear t1
    go_enter Tryd.func32, Tryd.ntmps32
    go_upto_region 1 with fail
    rw [HW1.out, HW2.out, HS.out]
    go_wp2_with fail
    go_ret
    exact ⟨rfl, HO.out⟩
  subst t1
  by_cases t1 : xo = yo
  case neg =>
    have t1' : (xo == yo) = false := by simpa using t1
    rw [decide_eq_false t1]
    clear t1
    go_enter Tryd.func32, Tryd.ntmps32
    go_upto_region 1 with fail
    rw [HW1.out, HW2.out, HS.out]
    go_wp2_with fail
    go_ret
    exact ⟨by simp, HO.out⟩
  subst t1
  go_enter Tryd.func32, Tryd.ntmps32
  go_upto_region 1 with fail
  rw [HW1.out, HW2.out, HS.out]
  go_wp2_with fail
  refine HS1.out.mono ?_
  rintro e w' ⟨rfl, b3⟩
  have HB3 := Lib.hid (HO.out.trans (b3.mono HO.out.size))
  clear b3
  go_wp2_with fail
  go_ret
  exact ⟨by simp, HB3.out⟩
set_option maxRecDepth 100000 in
set_option maxHeartbeats 4000000 in
theorem eqFields_any {w : World} {v u : Value} {L M : List Fl} {f : Nat} {p q : Addr} (h : FlsAt w v L) (k : FlsAt w u M) (hL : ∀ o ∈ L, OsOk o.ords) (hM : ∀ o ∈ M, OsOk o.ords) (hm : L.length ≤ 1000000) (hl : L.length = M.length)
    (hf : w.heap[f]? = some (.cells #[.func (.func 30) #[] #[.pointer (some p), .pointer (some q)]] 44 (0, 0))) : Calls Tryd.prog 33 #[v, u, .func (.func 32) #[] #[.pointer (some ⟨f, 0, none⟩)]] w fun e w' => e = .returned (.bool (decide (L = M))) ∧ Below w.heap.size w w' := by
  obtain ⟨a, c, rfl, hr⟩ := id h
  obtain ⟨a2, c2, rfl, hr2⟩ := id k
  obtain ⟨n, hn⟩ : ∃ n, n = L.length := ⟨_, rfl⟩
  have hn2 : n = M.length := hn.trans hl
  have H := Lib.hid h
  have K := Lib.hid k
  rw [← hn2] at K hl ⊢
  rw [← hn] at hm H hl ⊢
  clear h k hr hr2 hl
  have HN := Lib.hid hn
  have HN2 := Lib.hid hn2
  have HOL := Lib.hid hL
  have HOM := Lib.hid hM
  have HF := Lib.hid hf
  obtain ⟨B, hB⟩ : ∃ B, B = decide (L = M) := ⟨_, rfl⟩
  rw [← hB]
  have HB := Lib.hid hB
  clear hn hn2 hB hL hM hf
  go_enter Tryd.func33, Tryd.ntmps33
  go_upto_region 3 with fail
  go_wp2_with fail
  go_loopw [17] (fun i wr => ∃ k : Nat, k ≤ n ∧ i = .int .i64 k ∧ Hid (L.take k = M.take k) ∧ Below w.heap.size w wr) (fun i _ => n - (intOf i).toNat)
  case atStart => exact ⟨0, by omega, rfl, Lib.hid (by simp), Below.refl _ _⟩
  case round =>
    obtain ⟨k, hk, rfl, hsame, hold⟩ := hrel
    have HO := Lib.hid hold
    clear hold
    by_cases hkn : k < n
    · have hkni : (k : Int) < (n : Int) := by omega
      have hk0 : (0 : Int) ≤ (k : Int) := Int.natCast_nonneg _
      obtain ⟨x, hx⟩ : ∃ x, L[k]? = some x := ⟨_, List.getElem?_eq_getElem (by rw [← HN.out]; exact hkn)⟩
      obtain ⟨y, hy⟩ : ∃ y, M[k]? = some y := ⟨_, List.getElem?_eq_getElem (by rw [← HN2.out]; exact hkn)⟩
      obtain ⟨_, _, e1, hr⟩ := H.out.below HO.out
      obtain ⟨_, _, e2, hr2⟩ := K.out.below HO.out
      injection e1 with e1 ea eb
      injection e2 with e2 ec ed
      subst e1 e2 eb ed
      clear ea ec
      obtain ⟨g, off, rfl, _, hc⟩ := hr (by intro e; rw [e] at hx; simp at hx)
      obtain ⟨g2, off2, rfl, _, hc2⟩ := hr2 (by intro e; rw [e] at hy; simp at hy)
      obtain ⟨vo, ⟨d0, d1, d2, d3, d4, d5, d6⟩, dd⟩ := hc k x hx
      obtain ⟨vo2, ⟨f0, f1, f2, f3, f4, f5, f6⟩, fd⟩ := hc2 k y hy
      obtain ⟨oa, oc, hvo, _⟩ := id dd
      obtain ⟨ob, od, hvo2, _⟩ := id fd
      subst hvo hvo2
      obtain ⟨xn, hxn⟩ : ∃ xn, xn = x.ords.length := ⟨_, rfl⟩
      obtain ⟨yn, hyn⟩ : ∃ yn, yn = y.ords.length := ⟨_, rfl⟩
      rw [← hxn] at d4 dd
      rw [← hyn] at f4 fd
      have D := Lib.hid hx
      have E := Lib.hid hy
      have hpo := Lib.hid (HOL.out x (List.mem_of_getElem? hx))
      have hqo := Lib.hid (HOM.out y (List.mem_of_getElem? hy))
      have x1 := below_alloc wr (.cells #[.int .u8 x.id, .int .u8 x.op, .int .u8 x.kind, .int .u8 x.wcc, .slice oa xn oc, .int .i64 x.err, .slice none 0 0] 39)
      have x2 := below_alloc (wr.alloc (.cells #[.int .u8 x.id, .int .u8 x.op, .int .u8 x.kind, .int .u8 x.wcc, .slice oa xn oc, .int .i64 x.err, .slice none 0 0] 39)) (.cells #[.int .u8 y.id, .int .u8 y.op, .int .u8 y.kind, .int .u8 y.wcc, .slice ob yn od, .int .i64 y.err, .slice none 0 0] 39)
      have hw2 : Below wr.heap.size wr ((wr.alloc (.cells #[.int .u8 x.id, .int .u8 x.op, .int .u8 x.kind, .int .u8 x.wcc, .slice oa xn oc, .int .i64 x.err, .slice none 0 0] 39)).alloc (.cells #[.int .u8 y.id, .int .u8 y.op, .int .u8 y.kind, .int .u8 y.wcc, .slice ob yn od, .int .i64 y.err, .slice none 0 0] 39)) := x1.trans (x2.mono x1.size)
      have RP1 := Lib.hid (dd.below hw2)
      have RQ1 := Lib.hid (fd.below hw2)
      have HW2 := Lib.hid hw2
      have HF2 := Lib.hid (((HO.out.trans (hw2.mono HO.out.size)).block _ (lt_of_block HF.out)).trans HF.out)
      have HS2 := Lib.hid (same2_any RP1.out RQ1.out hpo.out hqo.out HF2.out)
      clear hx hy hc hc2 hr hr2 dd fd hxn hyn x1 x2 hw2
      by_cases hxy : sameFK x y = true
      · have HXY := Lib.hid hxy
        rw [hxy] at HS2
        clear hxy
        go_wp2_with (first | (go_at_call 32; refine HS2.out.mono ?_; rintro e W2 ⟨rfl, b2⟩; have B2 := Lib.hid (HO.out.trans ((HW2.out.trans (b2.mono HW2.out.size)).mono HO.out.size)); clear b2))
        go_roundw
        case rel => exact ⟨k + 1, by omega, by go_num, Lib.hid (by rw [List.take_add_one, List.take_add_one, hsame.out, D.out, E.out, (sameFK_eq x y).1 HXY.out]), B2.out⟩
        case measure => simp [intOf]; omega
      · have HXY : Hid (sameFK x y = false) := Lib.hid (by simpa using hxy)
        rw [HXY.out] at HS2
        have hBf : B = false := by
          rw [HB.out]
          apply decide_eq_false
          intro e
          have h1 := D.out
          rw [e, E.out] at h1
          injection h1 with h1
          exact hxy ((sameFK_eq x y).2 h1.symm)
        subst hBf
        clear hxy
        go_wp2_with (first | (go_at_call 32; refine HS2.out.mono ?_; rintro e W2 ⟨rfl, b2⟩; have B2 := Lib.hid (HO.out.trans ((HW2.out.trans (b2.mono HW2.out.size)).mono HO.out.size)); clear b2))
        go_ret
        exact ⟨rfl, B2.out⟩
    · obtain rfl : n = k := by omega
      have hBt : B = true := by
        rw [HB.out]
        apply decide_eq_true
        have := hsame.out
        rwa [List.take_of_length_le (by rw [← HN.out]; exact Nat.le_refl _), List.take_of_length_le (by rw [← HN2.out]; exact Nat.le_refl _)] at this
      subst hBt
      go_wp2_with fail
      go_ret
      exact ⟨rfl, HO.out⟩
end Go.Proofs.YtmmgebiojpnhcaaDoor.Cmd
