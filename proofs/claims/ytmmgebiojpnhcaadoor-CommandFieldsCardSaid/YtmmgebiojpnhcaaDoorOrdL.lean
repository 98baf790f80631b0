/-
  Same, of two orders, and of two rows of orders.
-/
import Derived.Test.YtmmgebiojpnhcaaDoorOrdK
namespace Go.Proofs.YtmmgebiojpnhcaaDoor.Ord
open Go.RowKit Base
set_option linter.unusedVariables false
set_option linter.unusedSimpArgs false

/-- An order that can be read. -/
def OrR (w : World) (o : Or) (V : Value) : Prop := ∃ vp vd, V = .agg #[.int .u8 o.kind, .int .i64 o.addr, .int .u8 o.byte, .bool o.ge, vp, vd] ∧ PrAt w vp o.pairs ∧ RowOf .u8 w vd o.data
structure Or.Ok (o : Or) : Prop where
  ps : o.pairs.length ≤ 1000000
  dt : ∀ x ∈ o.data, 0 ≤ x ∧ x < 256
def sameO (a b : Or) : Bool := decide (a.kind = b.kind) && decide (a.addr = b.addr) && decide (a.byte = b.byte) && decide (a.ge = b.ge) && decide (a.pairs = b.pairs) && decide (a.data = b.data)
theorem sameO_eq (a b : Or) : sameO a b = true ↔ a = b := by
  cases a; cases b
  simp [sameO]
  constructor
  · rintro ⟨⟨⟨⟨⟨rfl, rfl⟩, rfl⟩, rfl⟩, rfl⟩, rfl⟩; exact ⟨rfl, rfl, rfl, rfl, rfl, rfl⟩
  · rintro ⟨rfl, rfl, rfl, rfl, rfl, rfl⟩; exact ⟨⟨⟨⟨⟨rfl, rfl⟩, rfl⟩, rfl⟩, rfl⟩, rfl⟩
theorem OrR.below {w w' : World} {o : Or} {V : Value} (h : OrR w o V) (t : Below w.heap.size w w') : OrR w' o V := by
  obtain ⟨vp, vd, e, h1, h2⟩ := h
  exact ⟨vp, vd, e, h1.below t, h2.below t⟩
set_option maxRecDepth 100000 in
set_option maxHeartbeats 2000000 in
theorem same_any {w : World} {a b : Or} {u v : Value} (h : OrR w a u) (k : OrR w b v) (ha : a.Ok) (hb : b.Ok) : Calls Tryd.prog 44 #[u, v] w fun e w' => e = .returned (.bool (sameO a b)) ∧ Below w.heap.size w w' := by
  obtain ⟨vp, vd, rfl, hp, hd⟩ := h
  obtain ⟨vp2, vd2, rfl, hp2, hd2⟩ := k
  obtain ⟨k1, a1, b1, g1, p1, d1⟩ := a
  obtain ⟨k2, a2, b2, g2, p2, d2⟩ := b
  simp only at hp hd hp2 hd2
  have x1 := below_alloc w (.cells #[.int .u8 k1, .int .i64 a1, .int .u8 b1, .bool g1, vp, vd] 92)
  have y1 := heap_alloc_new w (.cells #[.int .u8 k1, .int .i64 a1, .int .u8 b1, .bool g1, vp, vd] 92)
  have z1 := World.size_alloc w (.cells #[.int .u8 k1, .int .i64 a1, .int .u8 b1, .bool g1, vp, vd] 92)
  obtain ⟨W1, hW1⟩ : ∃ W1, W1 = w.alloc (.cells #[.int .u8 k1, .int .i64 a1, .int .u8 b1, .bool g1, vp, vd] 92) := ⟨_, rfl⟩
  rw [← hW1] at x1 y1 z1
  have x2 := below_alloc W1 (.cells #[.int .u8 k2, .int .i64 a2, .int .u8 b2, .bool g2, vp2, vd2] 92)
  have y2 := heap_alloc_new W1 (.cells #[.int .u8 k2, .int .i64 a2, .int .u8 b2, .bool g2, vp2, vd2] 92)
  obtain ⟨W2, hW2⟩ : ∃ W2, W2 = W1.alloc (.cells #[.int .u8 k2, .int .i64 a2, .int .u8 b2, .bool g2, vp2, vd2] 92) := ⟨_, rfl⟩
  rw [← hW2] at x2 y2
  have y3 := (x2.block _ (lt_of_block y1)).trans y1
  obtain ⟨s, hs⟩ : ∃ s, s = w.heap.size := ⟨_, rfl⟩
  have hold : Below w.heap.size w W2 := x1.trans (x2.mono x1.size)
  have HP := Lib.hid (hp.below hold)
  have HP2 := Lib.hid (hp2.below hold)
  have HD := Lib.hid (hd.below hold)
  have HD2 := Lib.hid (hd2.below hold)
  obtain ⟨pa, pc, rfl⟩ := hp.form
  obtain ⟨pa2, pc2, rfl⟩ := hp2.form
  obtain ⟨da, dc, rfl, _⟩ := hd
  obtain ⟨da2, dc2, rfl, _⟩ := hd2
  rw [← hs] at y3
  rw [z1, ← hs] at y2
  obtain ⟨q0, q1, q2, q3, q4, q5, _⟩ := cells6 y3
  obtain ⟨r0, r1, r2, r3, r4, r5, _⟩ := cells6 y2
  have HW1 := Lib.hid hW1.symm
  have HW2 := Lib.hid hW2.symm
  have HS := Lib.hid hs.symm
  have HO := Lib.hid hold
  have HA := Lib.hid ha
  have HB := Lib.hid hb
  obtain ⟨R, hR⟩ : ∃ R, R = sameO ⟨k1, a1, b1, g1, p1, d1⟩ ⟨k2, a2, b2, g2, p2, d2⟩ := ⟨_, rfl⟩
  rw [← hR]
  unfold sameO at hR
  simp only at hR
  clear x1 y1 z1 x2 y2 y3 hW1 hW2 hs hold hp hp2 ha hb
  by_cases e1 : k1 = k2
  case neg =>
    have t1 : (k1 == k2) = false := by simpa using e1
    rw [decide_eq_false e1] at hR
    obtain rfl : R = false := by simpa using hR
    clear hR e1
    go_enter Tryd.func44, Tryd.ntmps44
    go_upto_region 1 with fail
    rw [HW1.out, HW2.out, HS.out]
    go_wp2_with fail
    go_ret
    exact ⟨rfl, HO.out⟩
  subst e1
  by_cases e2 : a1 = a2
  case neg =>
    have t2 : (a1 == a2) = false := by simpa using e2
    rw [decide_eq_false e2] at hR
    obtain rfl : R = false := by simpa using hR
    clear hR e2
    go_enter Tryd.func44, Tryd.ntmps44
    go_upto_region 1 with fail
    rw [HW1.out, HW2.out, HS.out]
    go_wp2_with fail
    go_ret
    exact ⟨rfl, HO.out⟩
  subst e2
  by_cases e3 : b1 = b2
  case neg =>
    have t3 : (b1 == b2) = false := by simpa using e3
    rw [decide_eq_false e3] at hR
    obtain rfl : R = false := by simpa using hR
    clear hR e3
    go_enter Tryd.func44, Tryd.ntmps44
    go_upto_region 1 with fail
    rw [HW1.out, HW2.out, HS.out]
    go_wp2_with fail
    go_ret
    exact ⟨rfl, HO.out⟩
  subst e3
  by_cases e4 : g1 = g2
  case neg =>
    have t4 : (g1 == g2) = false := by simpa using e4
    rw [decide_eq_false e4] at hR
    obtain rfl : R = false := by simpa using hR
    clear hR e4
    go_enter Tryd.func44, Tryd.ntmps44
    go_upto_region 1 with fail
    rw [HW1.out, HW2.out, HS.out]
    go_wp2_with fail
    go_ret
    exact ⟨rfl, HO.out⟩
  subst e4
  replace hR : R = (decide (p1 = p2) && decide (d1 = d2)) := by simpa using hR
  have HC := Lib.hid (equalP_any HP.out HP2.out HA.out.ps HB.out.ps)
  have HE : Hid (∀ n, Calls Tryd.prog 62 #[.slice da d1.length dc, .slice da2 d2.length dc2] (W2.drewN n) fun e w' => e = .returned (.bool (decide (d1 = d2))) ∧ W2.drewN n = w') := Lib.hid fun n => bEqual_any (w := W2.drewN n) (X := d1) (Y := d2) HD.out HD2.out HA.out.dt HB.out.dt
  obtain ⟨x, hx⟩ : ∃ x, x = decide (p1 = p2) := ⟨_, rfl⟩
  obtain ⟨y, hy⟩ : ∃ y, y = decide (d1 = d2) := ⟨_, rfl⟩
  rw [← hx, ← hy] at hR
  rw [← hx] at HC
  rw [← hy] at HE
  subst hR
  clear hx hy HP HP2 HD HD2 HA HB
  cases x
  · go_enter Tryd.func44, Tryd.ntmps44
    go_upto_region 1 with fail
    rw [HW1.out, HW2.out, HS.out]
    go_wp2_with fail
    refine HC.out.mono ?_
    rintro e w' ⟨rfl, n, rfl⟩
    go_wp2_with fail
    go_ret
    exact ⟨rfl, below_drewN HO.out n⟩
  · go_enter Tryd.func44, Tryd.ntmps44
    go_upto_region 1 with fail
    rw [HW1.out, HW2.out, HS.out]
    go_wp2_with fail
    refine HC.out.mono ?_
    rintro e w' ⟨rfl, n, rfl⟩
    go_wp2_with fail
    refine (HE.out n).mono ?_
    rintro e w' ⟨rfl, rfl⟩
    go_wp2_with fail
    go_ret
    exact ⟨by cases y <;> rfl, below_drewN HO.out n⟩
end Go.Proofs.YtmmgebiojpnhcaaDoor.Ord
