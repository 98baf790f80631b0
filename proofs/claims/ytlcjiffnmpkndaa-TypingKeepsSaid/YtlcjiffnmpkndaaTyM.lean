/-
  What a step of typing's laws does.
-/
import Derived.Test.YtlcjiffnmpkndaaTyK
import Derived.Test.YtlcjiffnmpkndaaMaskA
namespace Go.Proofs.Ytlcjiffnmpkndaa.Pl
open Go.RowKit Go.Shelf Base
set_option linter.unusedVariables false
set_option linter.unusedSimpArgs false

/-- A step, plainly: the cells, the cursor, how many, the error. -/
def doM (L : List Cl) (cur k a y : Int) (ys : List Int) (ins : Bool) : List Cl × Int × Nat × Int :=
  if k = 0 ∨ k = 1 ∨ k = 2 ∨ k = 3 then ((putM L cur y ins).1, (putM L cur y ins).2.1, 0, (putM L cur y ins).2.2)
  else if k = 4 then strM ins ys L cur
  else if k = 5 then ((delM L cur).1, (delM L cur).2.1, 0, (delM L cur).2.2)
  else if k = 6 then ((endM L cur).1, (endM L cur).2.1, 0, (endM L cur).2.2)
  else if k = 7 then ((dupM L cur ins).1, (dupM L cur ins).2.1, 0, (dupM L cur ins).2.2)
  else if k = 8 then ((putM L cur 30 ins).1, (putM L cur 30 ins).2.1, 0, (putM L cur 30 ins).2.2)
  else if k = 9 then (L, a % 256 % L.length, 0, 0)
  else (L, cur, 0, 0)
theorem tq_old {w W1 W : World} {b g : Nat} {r c z : Int} {M : List Cl} (hb : Below w.heap.size w W1) (h : TqQ W1 b g r c z M W) : TqQ w b g r c z M W := ⟨h.pl, (Turn.of_below hb).trans h.tn⟩
structure DoQ (W1 : World) (b g : Nat) (r c : Int) (L : List Cl) (s : Nat) (a : Int) (X : World) : Prop where
  pl : ∃ z, PlAt X b g r c z L
  ca : X.cell? ⟨s, 1, none⟩ = some (.int .i64 a)
  tn : Turn (Or2 (At b) (At g)) W1 X
theorem DoQ.drew {W1 X : World} {b g s : Nat} {r c a : Int} {L : List Cl} (h : DoQ W1 b g r c L s a X) : DoQ W1 b g r c L s a X.drew := ⟨by obtain ⟨z, hz⟩ := h.pl; exact ⟨z, hz.drew⟩, h.ca, ⟨h.tn.os, h.tn.tape, h.tn.output, h.tn.size, h.tn.block⟩⟩
theorem DoQ.q {W1 X : World} {b g s : Nat} {r c a : Int} {L : List Cl} (h : DoQ W1 b g r c L s a X) : X.cell? ⟨s, 1, none⟩ = some (.int .i64 a) ∧ DoQ W1 b g r c L s a X := ⟨h.ca, h⟩
theorem DoQ.point {W1 X Y : World} {b g s : Nat} {r c a x : Int} {L : List Cl} (h : DoQ W1 b g r c L s a X) (hs : s ≠ b) (hp : PlAt Y b g r c x L) (t : Turn (At b) X Y) : DoQ W1 b g r c L s a Y :=
  ⟨⟨x, hp⟩, (cell_block (t.block s (World.block_lt_of_cell? X ⟨s, 1, none⟩ h.ca) hs) 1).trans h.ca, h.tn.trans (t.mono fun k hk => .inl hk)⟩
set_option maxRecDepth 100000 in
set_option maxHeartbeats 4000000 in
theorem do_k0 {w : World} {b g : Nat} {r c cur : Int} {L : List Cl} (h : PlAt w b g r c cur L) (hbo : BoL L) (hcur : 0 ≤ cur ∧ cur < L.length) (a y : Int) (hy : 0 ≤ y ∧ y ≤ 255) (v : Value) (ys : List Int) (hr : RowIn (fun k => k ≠ b ∧ k ≠ g) .u8 w v ys) (hys : ∀ y ∈ ys, 0 ≤ y ∧ y ≤ 255) (hm : ys.length ≤ 4096) (ins : Bool) :
    Calls Try.prog 43 #[.pointer (some ⟨b, 0, none⟩), .agg #[.int .i64 0, .int .i64 a, .int .u8 y, v, .bool ins]] w (StrP w b g r c (doM L cur 0 a y ys ins)) := by
  obtain ⟨W1, hW1⟩ : ∃ W1, W1 = w.alloc (.cells #[.int .i64 0, .int .i64 a, .int .u8 y, v, .bool ins] 63) := ⟨_, rfl⟩
  have hb1 : Below w.heap.size w W1 := by rw [hW1]; exact below_alloc _ _
  have h1 : PlAt W1 b g r c cur L := h.below hb1
  have hr1 := hr.below hb1
  have hc1 := heap_alloc_new w (.cells #[.int .i64 0, .int .i64 a, .int .u8 y, v, .bool ins] 63)
  rw [← hW1] at hc1
  obtain ⟨s, hs⟩ : ∃ s, s = w.heap.size := ⟨_, rfl⟩
  rw [← hs] at hc1
  have d0 : W1.cell? ⟨s, 0, none⟩ = some (.int .i64 0) := by simp [World.cell?, hc1]
  have d1 : W1.cell? ⟨s, 1, none⟩ = some (.int .i64 a) := by simp [World.cell?, hc1]
  have d2 : W1.cell? ⟨s, 2, none⟩ = some (.int .u8 y) := by simp [World.cell?, hc1]
  have d3 : W1.cell? ⟨s, 3, none⟩ = some v := by simp [World.cell?, hc1]
  have d4 : W1.cell? ⟨s, 4, none⟩ = some (.bool ins) := by simp [World.cell?, hc1]
  have HB1 := Lib.hid hb1
  have HW1 := Lib.hid hW1.symm
  have HS := Lib.hid hs.symm
  have HR := Lib.hid (put_any h1 hbo y hy ins)
  obtain ⟨R, hR⟩ : ∃ R, R = putM L cur y ins := ⟨_, rfl⟩
  have he : doM L cur 0 a y ys ins = (R.1, R.2.1, 0, R.2.2) := by rw [hR]; rfl
  rw [he]
  rw [← hR] at HR
  obtain ⟨M, z, e0⟩ := R
  clear h hbo hr hys h1 hr1 hc1 hb1 hW1 hs hR he
  go_enter Try.func43, Try.ntmps43
  go_upto_region 1 with fail
  rw [HW1.out]
  rw [HS.out]
  go_wp2_with (go_at_call 49; (with_reducible refine HR.out.mono ?_); rintro e w2 ⟨rfl, hq⟩; have HQ := Lib.hid hq; clear hq)
  go_ret2
  exact ⟨rfl, tq_old HB1.out HQ.out⟩
set_option maxRecDepth 100000 in
set_option maxHeartbeats 4000000 in
theorem do_k1 {w : World} {b g : Nat} {r c cur : Int} {L : List Cl} (h : PlAt w b g r c cur L) (hbo : BoL L) (hcur : 0 ≤ cur ∧ cur < L.length) (a y : Int) (hy : 0 ≤ y ∧ y ≤ 255) (v : Value) (ys : List Int) (hr : RowIn (fun k => k ≠ b ∧ k ≠ g) .u8 w v ys) (hys : ∀ y ∈ ys, 0 ≤ y ∧ y ≤ 255) (hm : ys.length ≤ 4096) (ins : Bool) :
    Calls Try.prog 43 #[.pointer (some ⟨b, 0, none⟩), .agg #[.int .i64 1, .int .i64 a, .int .u8 y, v, .bool ins]] w (StrP w b g r c (doM L cur 1 a y ys ins)) := by
  obtain ⟨W1, hW1⟩ : ∃ W1, W1 = w.alloc (.cells #[.int .i64 1, .int .i64 a, .int .u8 y, v, .bool ins] 63) := ⟨_, rfl⟩
  have hb1 : Below w.heap.size w W1 := by rw [hW1]; exact below_alloc _ _
  have h1 : PlAt W1 b g r c cur L := h.below hb1
  have hr1 := hr.below hb1
  have hc1 := heap_alloc_new w (.cells #[.int .i64 1, .int .i64 a, .int .u8 y, v, .bool ins] 63)
  rw [← hW1] at hc1
  obtain ⟨s, hs⟩ : ∃ s, s = w.heap.size := ⟨_, rfl⟩
  rw [← hs] at hc1
  have d0 : W1.cell? ⟨s, 0, none⟩ = some (.int .i64 1) := by simp [World.cell?, hc1]
  have d1 : W1.cell? ⟨s, 1, none⟩ = some (.int .i64 a) := by simp [World.cell?, hc1]
  have d2 : W1.cell? ⟨s, 2, none⟩ = some (.int .u8 y) := by simp [World.cell?, hc1]
  have d3 : W1.cell? ⟨s, 3, none⟩ = some v := by simp [World.cell?, hc1]
  have d4 : W1.cell? ⟨s, 4, none⟩ = some (.bool ins) := by simp [World.cell?, hc1]
  have HB1 := Lib.hid hb1
  have HW1 := Lib.hid hW1.symm
  have HS := Lib.hid hs.symm
  have HR := Lib.hid (put_any h1 hbo y hy ins)
  obtain ⟨R, hR⟩ : ∃ R, R = putM L cur y ins := ⟨_, rfl⟩
  have he : doM L cur 1 a y ys ins = (R.1, R.2.1, 0, R.2.2) := by rw [hR]; rfl
  rw [he]
  rw [← hR] at HR
  obtain ⟨M, z, e0⟩ := R
  clear h hbo hr hys h1 hr1 hc1 hb1 hW1 hs hR he
  go_enter Try.func43, Try.ntmps43
  go_upto_region 1 with fail
  rw [HW1.out]
  rw [HS.out]
  go_wp2_with (go_at_call 49; (with_reducible refine HR.out.mono ?_); rintro e w2 ⟨rfl, hq⟩; have HQ := Lib.hid hq; clear hq)
  go_ret2
  exact ⟨rfl, tq_old HB1.out HQ.out⟩
set_option maxRecDepth 100000 in
set_option maxHeartbeats 4000000 in
theorem do_k2 {w : World} {b g : Nat} {r c cur : Int} {L : List Cl} (h : PlAt w b g r c cur L) (hbo : BoL L) (hcur : 0 ≤ cur ∧ cur < L.length) (a y : Int) (hy : 0 ≤ y ∧ y ≤ 255) (v : Value) (ys : List Int) (hr : RowIn (fun k => k ≠ b ∧ k ≠ g) .u8 w v ys) (hys : ∀ y ∈ ys, 0 ≤ y ∧ y ≤ 255) (hm : ys.length ≤ 4096) (ins : Bool) :
    Calls Try.prog 43 #[.pointer (some ⟨b, 0, none⟩), .agg #[.int .i64 2, .int .i64 a, .int .u8 y, v, .bool ins]] w (StrP w b g r c (doM L cur 2 a y ys ins)) := by
  obtain ⟨W1, hW1⟩ : ∃ W1, W1 = w.alloc (.cells #[.int .i64 2, .int .i64 a, .int .u8 y, v, .bool ins] 63) := ⟨_, rfl⟩
  have hb1 : Below w.heap.size w W1 := by rw [hW1]; exact below_alloc _ _
  have h1 : PlAt W1 b g r c cur L := h.below hb1
  have hr1 := hr.below hb1
  have hc1 := heap_alloc_new w (.cells #[.int .i64 2, .int .i64 a, .int .u8 y, v, .bool ins] 63)
  rw [← hW1] at hc1
  obtain ⟨s, hs⟩ : ∃ s, s = w.heap.size := ⟨_, rfl⟩
  rw [← hs] at hc1
  have d0 : W1.cell? ⟨s, 0, none⟩ = some (.int .i64 2) := by simp [World.cell?, hc1]
  have d1 : W1.cell? ⟨s, 1, none⟩ = some (.int .i64 a) := by simp [World.cell?, hc1]
  have d2 : W1.cell? ⟨s, 2, none⟩ = some (.int .u8 y) := by simp [World.cell?, hc1]
  have d3 : W1.cell? ⟨s, 3, none⟩ = some v := by simp [World.cell?, hc1]
  have d4 : W1.cell? ⟨s, 4, none⟩ = some (.bool ins) := by simp [World.cell?, hc1]
  have HB1 := Lib.hid hb1
  have HW1 := Lib.hid hW1.symm
  have HS := Lib.hid hs.symm
  have HR := Lib.hid (put_any h1 hbo y hy ins)
  obtain ⟨R, hR⟩ : ∃ R, R = putM L cur y ins := ⟨_, rfl⟩
  have he : doM L cur 2 a y ys ins = (R.1, R.2.1, 0, R.2.2) := by rw [hR]; rfl
  rw [he]
  rw [← hR] at HR
  obtain ⟨M, z, e0⟩ := R
  clear h hbo hr hys h1 hr1 hc1 hb1 hW1 hs hR he
  go_enter Try.func43, Try.ntmps43
  go_upto_region 1 with fail
  rw [HW1.out]
  rw [HS.out]
  go_wp2_with (go_at_call 49; (with_reducible refine HR.out.mono ?_); rintro e w2 ⟨rfl, hq⟩; have HQ := Lib.hid hq; clear hq)
  go_ret2
  exact ⟨rfl, tq_old HB1.out HQ.out⟩
set_option maxRecDepth 100000 in
set_option maxHeartbeats 4000000 in
theorem do_k3 {w : World} {b g : Nat} {r c cur : Int} {L : List Cl} (h : PlAt w b g r c cur L) (hbo : BoL L) (hcur : 0 ≤ cur ∧ cur < L.length) (a y : Int) (hy : 0 ≤ y ∧ y ≤ 255) (v : Value) (ys : List Int) (hr : RowIn (fun k => k ≠ b ∧ k ≠ g) .u8 w v ys) (hys : ∀ y ∈ ys, 0 ≤ y ∧ y ≤ 255) (hm : ys.length ≤ 4096) (ins : Bool) :
    Calls Try.prog 43 #[.pointer (some ⟨b, 0, none⟩), .agg #[.int .i64 3, .int .i64 a, .int .u8 y, v, .bool ins]] w (StrP w b g r c (doM L cur 3 a y ys ins)) := by
  obtain ⟨W1, hW1⟩ : ∃ W1, W1 = w.alloc (.cells #[.int .i64 3, .int .i64 a, .int .u8 y, v, .bool ins] 63) := ⟨_, rfl⟩
  have hb1 : Below w.heap.size w W1 := by rw [hW1]; exact below_alloc _ _
  have h1 : PlAt W1 b g r c cur L := h.below hb1
  have hr1 := hr.below hb1
  have hc1 := heap_alloc_new w (.cells #[.int .i64 3, .int .i64 a, .int .u8 y, v, .bool ins] 63)
  rw [← hW1] at hc1
  obtain ⟨s, hs⟩ : ∃ s, s = w.heap.size := ⟨_, rfl⟩
  rw [← hs] at hc1
  have d0 : W1.cell? ⟨s, 0, none⟩ = some (.int .i64 3) := by simp [World.cell?, hc1]
  have d1 : W1.cell? ⟨s, 1, none⟩ = some (.int .i64 a) := by simp [World.cell?, hc1]
  have d2 : W1.cell? ⟨s, 2, none⟩ = some (.int .u8 y) := by simp [World.cell?, hc1]
  have d3 : W1.cell? ⟨s, 3, none⟩ = some v := by simp [World.cell?, hc1]
  have d4 : W1.cell? ⟨s, 4, none⟩ = some (.bool ins) := by simp [World.cell?, hc1]
  have HB1 := Lib.hid hb1
  have HW1 := Lib.hid hW1.symm
  have HS := Lib.hid hs.symm
  have HR := Lib.hid (put_any h1 hbo y hy ins)
  obtain ⟨R, hR⟩ : ∃ R, R = putM L cur y ins := ⟨_, rfl⟩
  have he : doM L cur 3 a y ys ins = (R.1, R.2.1, 0, R.2.2) := by rw [hR]; rfl
  rw [he]
  rw [← hR] at HR
  obtain ⟨M, z, e0⟩ := R
  clear h hbo hr hys h1 hr1 hc1 hb1 hW1 hs hR he
  go_enter Try.func43, Try.ntmps43
  go_upto_region 1 with fail
  rw [HW1.out]
  rw [HS.out]
  go_wp2_with (go_at_call 49; (with_reducible refine HR.out.mono ?_); rintro e w2 ⟨rfl, hq⟩; have HQ := Lib.hid hq; clear hq)
  go_ret2
  exact ⟨rfl, tq_old HB1.out HQ.out⟩
set_option maxRecDepth 100000 in
set_option maxHeartbeats 4000000 in
theorem do_k4 {w : World} {b g : Nat} {r c cur : Int} {L : List Cl} (h : PlAt w b g r c cur L) (hbo : BoL L) (hcur : 0 ≤ cur ∧ cur < L.length) (a y : Int) (hy : 0 ≤ y ∧ y ≤ 255) (v : Value) (ys : List Int) (hr : RowIn (fun k => k ≠ b ∧ k ≠ g) .u8 w v ys) (hys : ∀ y ∈ ys, 0 ≤ y ∧ y ≤ 255) (hm : ys.length ≤ 4096) (ins : Bool) :
    Calls Try.prog 43 #[.pointer (some ⟨b, 0, none⟩), .agg #[.int .i64 4, .int .i64 a, .int .u8 y, v, .bool ins]] w (StrP w b g r c (doM L cur 4 a y ys ins)) := by
  obtain ⟨W1, hW1⟩ : ∃ W1, W1 = w.alloc (.cells #[.int .i64 4, .int .i64 a, .int .u8 y, v, .bool ins] 63) := ⟨_, rfl⟩
  have hb1 : Below w.heap.size w W1 := by rw [hW1]; exact below_alloc _ _
  have h1 : PlAt W1 b g r c cur L := h.below hb1
  have hr1 := hr.below hb1
  have hc1 := heap_alloc_new w (.cells #[.int .i64 4, .int .i64 a, .int .u8 y, v, .bool ins] 63)
  rw [← hW1] at hc1
  obtain ⟨s, hs⟩ : ∃ s, s = w.heap.size := ⟨_, rfl⟩
  rw [← hs] at hc1
  have d0 : W1.cell? ⟨s, 0, none⟩ = some (.int .i64 4) := by simp [World.cell?, hc1]
  have d1 : W1.cell? ⟨s, 1, none⟩ = some (.int .i64 a) := by simp [World.cell?, hc1]
  have d2 : W1.cell? ⟨s, 2, none⟩ = some (.int .u8 y) := by simp [World.cell?, hc1]
  have d3 : W1.cell? ⟨s, 3, none⟩ = some v := by simp [World.cell?, hc1]
  have d4 : W1.cell? ⟨s, 4, none⟩ = some (.bool ins) := by simp [World.cell?, hc1]
  have HB1 := Lib.hid hb1
  have HW1 := Lib.hid hW1.symm
  have HS := Lib.hid hs.symm
  have HR := Lib.hid (string_any h1 hbo v ys hr1 hys hm ins)
  obtain ⟨R, hR⟩ : ∃ R, R = strM ins ys L cur := ⟨_, rfl⟩
  have he : doM L cur 4 a y ys ins = R := by rw [hR]; rfl
  rw [he]
  rw [← hR] at HR
  obtain ⟨M, z, m0, e0⟩ := R
  clear h hbo hr hys h1 hr1 hc1 hb1 hW1 hs hR he
  go_enter Try.func43, Try.ntmps43
  go_upto_region 1 with fail
  rw [HW1.out]
  rw [HS.out]
  go_wp2_with (go_at_call 53; (with_reducible refine HR.out.mono ?_); rintro e w2 ⟨rfl, hq⟩; have HQ := Lib.hid hq; clear hq)
  go_ret2
  exact ⟨rfl, tq_old HB1.out HQ.out⟩
set_option maxRecDepth 100000 in
set_option maxHeartbeats 4000000 in
theorem do_k5 {w : World} {b g : Nat} {r c cur : Int} {L : List Cl} (h : PlAt w b g r c cur L) (hbo : BoL L) (hcur : 0 ≤ cur ∧ cur < L.length) (a y : Int) (hy : 0 ≤ y ∧ y ≤ 255) (v : Value) (ys : List Int) (hr : RowIn (fun k => k ≠ b ∧ k ≠ g) .u8 w v ys) (hys : ∀ y ∈ ys, 0 ≤ y ∧ y ≤ 255) (hm : ys.length ≤ 4096) (ins : Bool) :
    Calls Try.prog 43 #[.pointer (some ⟨b, 0, none⟩), .agg #[.int .i64 5, .int .i64 a, .int .u8 y, v, .bool ins]] w (StrP w b g r c (doM L cur 5 a y ys ins)) := by
  obtain ⟨W1, hW1⟩ : ∃ W1, W1 = w.alloc (.cells #[.int .i64 5, .int .i64 a, .int .u8 y, v, .bool ins] 63) := ⟨_, rfl⟩
  have hb1 : Below w.heap.size w W1 := by rw [hW1]; exact below_alloc _ _
  have h1 : PlAt W1 b g r c cur L := h.below hb1
  have hr1 := hr.below hb1
  have hc1 := heap_alloc_new w (.cells #[.int .i64 5, .int .i64 a, .int .u8 y, v, .bool ins] 63)
  rw [← hW1] at hc1
  obtain ⟨s, hs⟩ : ∃ s, s = w.heap.size := ⟨_, rfl⟩
  rw [← hs] at hc1
  have d0 : W1.cell? ⟨s, 0, none⟩ = some (.int .i64 5) := by simp [World.cell?, hc1]
  have d1 : W1.cell? ⟨s, 1, none⟩ = some (.int .i64 a) := by simp [World.cell?, hc1]
  have d2 : W1.cell? ⟨s, 2, none⟩ = some (.int .u8 y) := by simp [World.cell?, hc1]
  have d3 : W1.cell? ⟨s, 3, none⟩ = some v := by simp [World.cell?, hc1]
  have d4 : W1.cell? ⟨s, 4, none⟩ = some (.bool ins) := by simp [World.cell?, hc1]
  have HB1 := Lib.hid hb1
  have HW1 := Lib.hid hW1.symm
  have HS := Lib.hid hs.symm
  have HR := Lib.hid (del_any h1 hbo)
  obtain ⟨R, hR⟩ : ∃ R, R = delM L cur := ⟨_, rfl⟩
  have he : doM L cur 5 a y ys ins = (R.1, R.2.1, 0, R.2.2) := by rw [hR]; rfl
  rw [he]
  rw [← hR] at HR
  obtain ⟨M, z, e0⟩ := R
  clear h hbo hr hys h1 hr1 hc1 hb1 hW1 hs hR he
  go_enter Try.func43, Try.ntmps43
  go_upto_region 1 with fail
  rw [HW1.out]
  rw [HS.out]
  go_wp2_with (go_at_call 52; (with_reducible refine HR.out.mono ?_); rintro e w2 ⟨rfl, hq⟩; have HQ := Lib.hid hq; clear hq)
  go_ret2
  exact ⟨rfl, tq_old HB1.out HQ.out⟩
set_option maxRecDepth 100000 in
set_option maxHeartbeats 4000000 in
theorem do_k6 {w : World} {b g : Nat} {r c cur : Int} {L : List Cl} (h : PlAt w b g r c cur L) (hbo : BoL L) (hcur : 0 ≤ cur ∧ cur < L.length) (a y : Int) (hy : 0 ≤ y ∧ y ≤ 255) (v : Value) (ys : List Int) (hr : RowIn (fun k => k ≠ b ∧ k ≠ g) .u8 w v ys) (hys : ∀ y ∈ ys, 0 ≤ y ∧ y ≤ 255) (hm : ys.length ≤ 4096) (ins : Bool) :
    Calls Try.prog 43 #[.pointer (some ⟨b, 0, none⟩), .agg #[.int .i64 6, .int .i64 a, .int .u8 y, v, .bool ins]] w (StrP w b g r c (doM L cur 6 a y ys ins)) := by
  obtain ⟨W1, hW1⟩ : ∃ W1, W1 = w.alloc (.cells #[.int .i64 6, .int .i64 a, .int .u8 y, v, .bool ins] 63) := ⟨_, rfl⟩
  have hb1 : Below w.heap.size w W1 := by rw [hW1]; exact below_alloc _ _
  have h1 : PlAt W1 b g r c cur L := h.below hb1
  have hr1 := hr.below hb1
  have hc1 := heap_alloc_new w (.cells #[.int .i64 6, .int .i64 a, .int .u8 y, v, .bool ins] 63)
  rw [← hW1] at hc1
  obtain ⟨s, hs⟩ : ∃ s, s = w.heap.size := ⟨_, rfl⟩
  rw [← hs] at hc1
  have d0 : W1.cell? ⟨s, 0, none⟩ = some (.int .i64 6) := by simp [World.cell?, hc1]
  have d1 : W1.cell? ⟨s, 1, none⟩ = some (.int .i64 a) := by simp [World.cell?, hc1]
  have d2 : W1.cell? ⟨s, 2, none⟩ = some (.int .u8 y) := by simp [World.cell?, hc1]
  have d3 : W1.cell? ⟨s, 3, none⟩ = some v := by simp [World.cell?, hc1]
  have d4 : W1.cell? ⟨s, 4, none⟩ = some (.bool ins) := by simp [World.cell?, hc1]
  have HB1 := Lib.hid hb1
  have HW1 := Lib.hid hW1.symm
  have HS := Lib.hid hs.symm
  have HR := Lib.hid (end_any h1 hbo)
  obtain ⟨R, hR⟩ : ∃ R, R = endM L cur := ⟨_, rfl⟩
  have he : doM L cur 6 a y ys ins = (R.1, R.2.1, 0, R.2.2) := by rw [hR]; rfl
  rw [he]
  rw [← hR] at HR
  obtain ⟨M, z, e0⟩ := R
  clear h hbo hr hys h1 hr1 hc1 hb1 hW1 hs hR he
  go_enter Try.func43, Try.ntmps43
  go_upto_region 1 with fail
  rw [HW1.out]
  rw [HS.out]
  go_wp2_with (go_at_call 54; (with_reducible refine HR.out.mono ?_); rintro e w2 ⟨rfl, hq⟩; have HQ := Lib.hid hq; clear hq)
  go_ret2
  exact ⟨rfl, tq_old HB1.out HQ.out⟩
set_option maxRecDepth 100000 in
set_option maxHeartbeats 4000000 in
theorem do_k7 {w : World} {b g : Nat} {r c cur : Int} {L : List Cl} (h : PlAt w b g r c cur L) (hbo : BoL L) (hcur : 0 ≤ cur ∧ cur < L.length) (a y : Int) (hy : 0 ≤ y ∧ y ≤ 255) (v : Value) (ys : List Int) (hr : RowIn (fun k => k ≠ b ∧ k ≠ g) .u8 w v ys) (hys : ∀ y ∈ ys, 0 ≤ y ∧ y ≤ 255) (hm : ys.length ≤ 4096) (ins : Bool) :
    Calls Try.prog 43 #[.pointer (some ⟨b, 0, none⟩), .agg #[.int .i64 7, .int .i64 a, .int .u8 y, v, .bool ins]] w (StrP w b g r c (doM L cur 7 a y ys ins)) := by
  obtain ⟨W1, hW1⟩ : ∃ W1, W1 = w.alloc (.cells #[.int .i64 7, .int .i64 a, .int .u8 y, v, .bool ins] 63) := ⟨_, rfl⟩
  have hb1 : Below w.heap.size w W1 := by rw [hW1]; exact below_alloc _ _
  have h1 : PlAt W1 b g r c cur L := h.below hb1
  have hr1 := hr.below hb1
  have hc1 := heap_alloc_new w (.cells #[.int .i64 7, .int .i64 a, .int .u8 y, v, .bool ins] 63)
  rw [← hW1] at hc1
  obtain ⟨s, hs⟩ : ∃ s, s = w.heap.size := ⟨_, rfl⟩
  rw [← hs] at hc1
  have d0 : W1.cell? ⟨s, 0, none⟩ = some (.int .i64 7) := by simp [World.cell?, hc1]
  have d1 : W1.cell? ⟨s, 1, none⟩ = some (.int .i64 a) := by simp [World.cell?, hc1]
  have d2 : W1.cell? ⟨s, 2, none⟩ = some (.int .u8 y) := by simp [World.cell?, hc1]
  have d3 : W1.cell? ⟨s, 3, none⟩ = some v := by simp [World.cell?, hc1]
  have d4 : W1.cell? ⟨s, 4, none⟩ = some (.bool ins) := by simp [World.cell?, hc1]
  have HB1 := Lib.hid hb1
  have HW1 := Lib.hid hW1.symm
  have HS := Lib.hid hs.symm
  have HR := Lib.hid (dup_any h1 hbo hcur ins)
  obtain ⟨R, hR⟩ : ∃ R, R = dupM L cur ins := ⟨_, rfl⟩
  have he : doM L cur 7 a y ys ins = (R.1, R.2.1, 0, R.2.2) := by rw [hR]; rfl
  rw [he]
  rw [← hR] at HR
  obtain ⟨M, z, e0⟩ := R
  clear h hbo hr hys h1 hr1 hc1 hb1 hW1 hs hR he
  go_enter Try.func43, Try.ntmps43
  go_upto_region 1 with fail
  rw [HW1.out]
  rw [HS.out]
  go_wp2_with (go_at_call 82; (with_reducible refine HR.out.mono ?_); rintro e w2 ⟨rfl, hq⟩; have HQ := Lib.hid hq; clear hq)
  go_ret2
  exact ⟨rfl, tq_old HB1.out HQ.out⟩
set_option maxRecDepth 100000 in
set_option maxHeartbeats 4000000 in
theorem do_k8 {w : World} {b g : Nat} {r c cur : Int} {L : List Cl} (h : PlAt w b g r c cur L) (hbo : BoL L) (hcur : 0 ≤ cur ∧ cur < L.length) (a y : Int) (hy : 0 ≤ y ∧ y ≤ 255) (v : Value) (ys : List Int) (hr : RowIn (fun k => k ≠ b ∧ k ≠ g) .u8 w v ys) (hys : ∀ y ∈ ys, 0 ≤ y ∧ y ≤ 255) (hm : ys.length ≤ 4096) (ins : Bool) :
    Calls Try.prog 43 #[.pointer (some ⟨b, 0, none⟩), .agg #[.int .i64 8, .int .i64 a, .int .u8 y, v, .bool ins]] w (StrP w b g r c (doM L cur 8 a y ys ins)) := by
  obtain ⟨W1, hW1⟩ : ∃ W1, W1 = w.alloc (.cells #[.int .i64 8, .int .i64 a, .int .u8 y, v, .bool ins] 63) := ⟨_, rfl⟩
  have hb1 : Below w.heap.size w W1 := by rw [hW1]; exact below_alloc _ _
  have h1 : PlAt W1 b g r c cur L := h.below hb1
  have hr1 := hr.below hb1
  have hc1 := heap_alloc_new w (.cells #[.int .i64 8, .int .i64 a, .int .u8 y, v, .bool ins] 63)
  rw [← hW1] at hc1
  obtain ⟨s, hs⟩ : ∃ s, s = w.heap.size := ⟨_, rfl⟩
  rw [← hs] at hc1
  have d0 : W1.cell? ⟨s, 0, none⟩ = some (.int .i64 8) := by simp [World.cell?, hc1]
  have d1 : W1.cell? ⟨s, 1, none⟩ = some (.int .i64 a) := by simp [World.cell?, hc1]
  have d2 : W1.cell? ⟨s, 2, none⟩ = some (.int .u8 y) := by simp [World.cell?, hc1]
  have d3 : W1.cell? ⟨s, 3, none⟩ = some v := by simp [World.cell?, hc1]
  have d4 : W1.cell? ⟨s, 4, none⟩ = some (.bool ins) := by simp [World.cell?, hc1]
  have HB1 := Lib.hid hb1
  have HW1 := Lib.hid hW1.symm
  have HS := Lib.hid hs.symm
  have HR := Lib.hid (tmark_any h1 hbo ins)
  obtain ⟨R, hR⟩ : ∃ R, R = putM L cur 30 ins := ⟨_, rfl⟩
  have he : doM L cur 8 a y ys ins = (R.1, R.2.1, 0, R.2.2) := by rw [hR]; rfl
  rw [he]
  rw [← hR] at HR
  obtain ⟨M, z, e0⟩ := R
  clear h hbo hr hys h1 hr1 hc1 hb1 hW1 hs hR he
  go_enter Try.func43, Try.ntmps43
  go_upto_region 1 with fail
  rw [HW1.out]
  rw [HS.out]
  go_wp2_with (go_at_call 83; (with_reducible refine HR.out.mono ?_); rintro e w2 ⟨rfl, hq⟩; have HQ := Lib.hid hq; clear hq)
  go_ret2
  exact ⟨rfl, tq_old HB1.out HQ.out⟩
set_option maxRecDepth 100000 in
set_option maxHeartbeats 4000000 in
theorem do_k9 {w : World} {b g : Nat} {r c cur : Int} {L : List Cl} (h : PlAt w b g r c cur L) (hbo : BoL L) (hcur : 0 ≤ cur ∧ cur < L.length) (a y : Int) (hy : 0 ≤ y ∧ y ≤ 255) (v : Value) (ys : List Int) (hr : RowIn (fun k => k ≠ b ∧ k ≠ g) .u8 w v ys) (hys : ∀ y ∈ ys, 0 ≤ y ∧ y ≤ 255) (hm : ys.length ≤ 4096) (ins : Bool) :
    Calls Try.prog 43 #[.pointer (some ⟨b, 0, none⟩), .agg #[.int .i64 9, .int .i64 a, .int .u8 y, v, .bool ins]] w (StrP w b g r c (doM L cur 9 a y ys ins)) := by
  obtain ⟨W1, hW1⟩ : ∃ W1, W1 = w.alloc (.cells #[.int .i64 9, .int .i64 a, .int .u8 y, v, .bool ins] 63) := ⟨_, rfl⟩
  have hb1 : Below w.heap.size w W1 := by rw [hW1]; exact below_alloc _ _
  have h1 : PlAt W1 b g r c cur L := h.below hb1
  have hr1 := hr.below hb1
  have hc1 := heap_alloc_new w (.cells #[.int .i64 9, .int .i64 a, .int .u8 y, v, .bool ins] 63)
  rw [← hW1] at hc1
  obtain ⟨s, hs⟩ : ∃ s, s = w.heap.size := ⟨_, rfl⟩
  rw [← hs] at hc1
  have d0 : W1.cell? ⟨s, 0, none⟩ = some (.int .i64 9) := by simp [World.cell?, hc1]
  have d1 : W1.cell? ⟨s, 1, none⟩ = some (.int .i64 a) := by simp [World.cell?, hc1]
  have d2 : W1.cell? ⟨s, 2, none⟩ = some (.int .u8 y) := by simp [World.cell?, hc1]
  have d3 : W1.cell? ⟨s, 3, none⟩ = some v := by simp [World.cell?, hc1]
  have d4 : W1.cell? ⟨s, 4, none⟩ = some (.bool ins) := by simp [World.cell?, hc1]
  have HB1 := Lib.hid hb1
  have HW1 := Lib.hid hW1.symm
  have HS := Lib.hid hs.symm
  have hps := h.pos
  have hmo := h.most
  have he : doM L cur 9 a y ys ins = (L, a % 256 % L.length, 0, 0) := rfl
  rw [he]
  obtain ⟨n, hn⟩ : ∃ n, n = L.length := ⟨_, rfl⟩
  obtain ⟨j, hand0, hj1, hj2⟩ := Go.Proofs.Ytlcjiffnmpkndaa.Mask.mask_nat a 255 8 256 (by omega) (by decide) (by decide)
  have hand : bits .and .i64 a 255 = (j : Int) := hand0
  clear hand0
  have hj2' : (j : Int) = a % 256 := hj2
  obtain ⟨x, hx⟩ : ∃ x, x = (j : Int) % (n : Int) := ⟨_, rfl⟩
  have hj0 : (0 : Int) ≤ (j : Int) ∧ (j : Int) < 256 := by omega
  rw [← hn] at hps hmo
  have hrem : (j : Int).tmod (n : Int) = x := by rw [hx]; exact Int.tmod_eq_emod_of_nonneg hj0.1
  have hxb : 0 ≤ x ∧ x < n := by rw [hx]; exact ⟨Int.emod_nonneg _ (by omega), Int.emod_lt_of_pos _ (by omega)⟩
  rw [← hn, ← hj2', ← hx]
  have hn1 : (1 : Int) ≤ (n : Int) := by omega
  have hn2 : (n : Int) ≤ 4096 := by omega
  have K0 := Lib.hid (show DoQ W1 b g r c L s a W1 from ⟨⟨_, h1⟩, d1, Turn.refl _ _⟩)
  have HH1 := Lib.hid h1
  have HHAS := Lib.hid (show hasL L x = true by unfold hasL; rw [← hn]; exact decide_eq_true hxb)
  have HLEN := Lib.hid (len_any HH1.out.drew)
  rw [← hn] at HLEN
  have hn0 : ¬ ((n : Int) = 0) := by omega
  have hnN : ¬ (n = 0) := by omega
  have HSB := Lib.hid (show s ≠ b by have := h.lt; omega)
  clear h hbo hr hys h1 hr1 hc1 hb1 hW1 hs he hn hx hj2 hj2'
  go_enter Try.func43, Try.ntmps43
  go_upto_region 1 with fail
  rw [HW1.out]
  rw [HS.out]
  go_wp2_with fail
  go_region_held3 (fun X => X.cell? ⟨s, 1, none⟩ = some (.int .i64 a) ∧ DoQ W1 b g r c L s a X)
    (with_reducible (first | assumption | exact DoQ.q K0.out.drew | exact DoQ.q (by assumption)))
    (first
      | (go_at_call 39; (with_reducible refine HLEN.out.mono ?_); rintro e w2 ⟨rfl, rfl⟩)
      | (go_at_call 34; (with_reducible refine (point_k HH1.out.drew x HHAS.out).mono ?_); rintro e w3 ⟨rfl, hp, ht⟩; have HP := Lib.hid hp; have hq := DoQ.point K0.out.drew HSB.out hp ht; clear hp ht))
  all_goals
    go_wp2
    go_ret2
    exact ⟨rfl, tq_old HB1.out ⟨HP.out, hq.tn⟩⟩
set_option maxRecDepth 100000 in
set_option maxHeartbeats 4000000 in
theorem do_no {w : World} {b g : Nat} {r c cur : Int} {L : List Cl} (h : PlAt w b g r c cur L) (hbo : BoL L) (hcur : 0 ≤ cur ∧ cur < L.length) (a y : Int) (hy : 0 ≤ y ∧ y ≤ 255) (v : Value) (ys : List Int) (hr : RowIn (fun k => k ≠ b ∧ k ≠ g) .u8 w v ys) (hys : ∀ y ∈ ys, 0 ≤ y ∧ y ≤ 255) (hm : ys.length ≤ 4096) (ins : Bool) {k : Int} (hk : k ≠ 0 ∧ k ≠ 1 ∧ k ≠ 2 ∧ k ≠ 3 ∧ k ≠ 4 ∧ k ≠ 5 ∧ k ≠ 6 ∧ k ≠ 7 ∧ k ≠ 8 ∧ k ≠ 9) :
    Calls Try.prog 43 #[.pointer (some ⟨b, 0, none⟩), .agg #[.int .i64 k, .int .i64 a, .int .u8 y, v, .bool ins]] w (StrP w b g r c (doM L cur k a y ys ins)) := by
  obtain ⟨W1, hW1⟩ : ∃ W1, W1 = w.alloc (.cells #[.int .i64 k, .int .i64 a, .int .u8 y, v, .bool ins] 63) := ⟨_, rfl⟩
  have hb1 : Below w.heap.size w W1 := by rw [hW1]; exact below_alloc _ _
  have h1 : PlAt W1 b g r c cur L := h.below hb1
  have hr1 := hr.below hb1
  have hc1 := heap_alloc_new w (.cells #[.int .i64 k, .int .i64 a, .int .u8 y, v, .bool ins] 63)
  rw [← hW1] at hc1
  obtain ⟨s, hs⟩ : ∃ s, s = w.heap.size := ⟨_, rfl⟩
  rw [← hs] at hc1
  have d0 : W1.cell? ⟨s, 0, none⟩ = some (.int .i64 k) := by simp [World.cell?, hc1]
  have d1 : W1.cell? ⟨s, 1, none⟩ = some (.int .i64 a) := by simp [World.cell?, hc1]
  have d2 : W1.cell? ⟨s, 2, none⟩ = some (.int .u8 y) := by simp [World.cell?, hc1]
  have d3 : W1.cell? ⟨s, 3, none⟩ = some v := by simp [World.cell?, hc1]
  have d4 : W1.cell? ⟨s, 4, none⟩ = some (.bool ins) := by simp [World.cell?, hc1]
  have HB1 := Lib.hid hb1
  have HW1 := Lib.hid hW1.symm
  have HS := Lib.hid hs.symm
  obtain ⟨h0, h11, h2, h3, h4, h5, h6, h7, h8, h9⟩ := hk
  have he : doM L cur k a y ys ins = (L, cur, 0, 0) := by unfold doM; simp [h0, h11, h2, h3, h4, h5, h6, h7, h8, h9]
  rw [he]
  have HH1 := Lib.hid h1
  have e0 : (k == 0) = false := by simpa using h0
  have e1 : (k == 1) = false := by simpa using h11
  have e2 : (k == 2) = false := by simpa using h2
  have e3 : (k == 3) = false := by simpa using h3
  have e4 : (k == 4) = false := by simpa using h4
  have e5 : (k == 5) = false := by simpa using h5
  have e6 : (k == 6) = false := by simpa using h6
  have e7 : (k == 7) = false := by simpa using h7
  have e8 : (k == 8) = false := by simpa using h8
  have e9 : (k == 9) = false := by simpa using h9
  clear h hbo hr hys h1 hr1 hc1 hb1 hW1 hs he h0 h11 h2 h3 h4 h5 h6 h7 h8 h9
  go_enter Try.func43, Try.ntmps43
  go_upto_region 1 with fail
  rw [HW1.out]
  rw [HS.out]
  go_wp2_with fail
  go_ret2
  exact ⟨rfl, tq_old HB1.out ⟨HH1.out, Turn.refl _ _⟩⟩
theorem do_any {w : World} {b g : Nat} {r c cur : Int} {L : List Cl} (h : PlAt w b g r c cur L) (hbo : BoL L) (hcur : 0 ≤ cur ∧ cur < L.length) (k a y : Int) (hy : 0 ≤ y ∧ y ≤ 255) (v : Value) (ys : List Int) (hr : RowIn (fun k => k ≠ b ∧ k ≠ g) .u8 w v ys) (hys : ∀ y ∈ ys, 0 ≤ y ∧ y ≤ 255) (hm : ys.length ≤ 4096) (ins : Bool) :
    Calls Try.prog 43 #[.pointer (some ⟨b, 0, none⟩), .agg #[.int .i64 k, .int .i64 a, .int .u8 y, v, .bool ins]] w (StrP w b g r c (doM L cur k a y ys ins)) := by
  by_cases h0 : k = 0; · subst h0; exact do_k0 h hbo hcur a y hy v ys hr hys hm ins
  by_cases h1 : k = 1; · subst h1; exact do_k1 h hbo hcur a y hy v ys hr hys hm ins
  by_cases h2 : k = 2; · subst h2; exact do_k2 h hbo hcur a y hy v ys hr hys hm ins
  by_cases h3 : k = 3; · subst h3; exact do_k3 h hbo hcur a y hy v ys hr hys hm ins
  by_cases h4 : k = 4; · subst h4; exact do_k4 h hbo hcur a y hy v ys hr hys hm ins
  by_cases h5 : k = 5; · subst h5; exact do_k5 h hbo hcur a y hy v ys hr hys hm ins
  by_cases h6 : k = 6; · subst h6; exact do_k6 h hbo hcur a y hy v ys hr hys hm ins
  by_cases h7 : k = 7; · subst h7; exact do_k7 h hbo hcur a y hy v ys hr hys hm ins
  by_cases h8 : k = 8; · subst h8; exact do_k8 h hbo hcur a y hy v ys hr hys hm ins
  by_cases h9 : k = 9; · subst h9; exact do_k9 h hbo hcur a y hy v ys hr hys hm ins
  exact do_no h hbo hcur a y hy v ys hr hys hm ins ⟨h0, h1, h2, h3, h4, h5, h6, h7, h8, h9⟩
end Go.Proofs.Ytlcjiffnmpkndaa.Pl
