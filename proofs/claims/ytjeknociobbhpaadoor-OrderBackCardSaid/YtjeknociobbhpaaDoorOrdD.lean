/-
  A pair.
-/
import Derived.Test.YtjeknociobbhpaaDoorOrdC
import Derived.Deep.WholeRow
namespace Go.Proofs.YtjeknociobbhpaaDoor.Ord
open Go.RowKit Base
set_option linter.unusedVariables false
set_option linter.unusedSimpArgs false

theorem info_pair : (Tryd.prog.info? 58).map (fun i => (i.zero, i.size)) = some (some (.agg #[.int .u8 0, .int .u8 0]), 2) := by kernel_rfl
theorem size_pair : (Tryd.prog.info? 58).map (·.size) = some 2 := by kernel_rfl
theorem load_pair {g : Nat} {W : World} {x y : Value} (hr : W.heap[g]? = some (.cells #[x, y] 58 (0, 0))) : (loadVar 58 ⟨g, 0, none⟩).run Tryd.prog W = .ok (.agg #[x, y]) W :=
  run_loadVar_row _ g 58 58 _ (0, 0) _ hr Tryd.underlying58 rfl size_pair
theorem results_row {fn : Func} {p : Tmp} {ty : TypeId} (h : fn.results = #[.cell p ty]) (tmps : Array Value) (w : World) (g : Nat) (cs : Array Value)
    (hp : tmps.getD p undef = .pointer (some ⟨g, 0, none⟩)) (hl : (loadVar ty ⟨g, 0, none⟩).run Tryd.prog w = .ok (.agg cs) w) : (results fn tmps).run Tryd.prog w = .ok (.agg cs) w := by
  have hp' : tmps[p]?.getD undef = .pointer (some ⟨g, 0, none⟩) := by simpa using hp
  simp [results, h, hp', asAddr, hl]
section
variable {w w' : World} {b : Nat} {a : Option Addr} {cap : Nat} {L : List Int} {i : Nat}
set_option maxRecDepth 100000 in
set_option maxHeartbeats 1000000 in
theorem pair_any (h : Rdr w b a cap L i) (kind : Int) : Calls Tryd.prog 52 #[.pointer (some ⟨b, 0, none⟩), .int .u8 kind] w (RdP b a cap L w (pairM L kind i) fun _ x V => V = .agg #[.int .u8 x.1, .int .u8 x.2]) := by
  have hz := (zero_of_info info_pair).1
  have hlt := lt_of_block h.box
  unfold pairM
  have H0 := Lib.hid (h.below (below_alloc w (.cells #[.int .u8 0, .int .u8 0] 58)))
  have B0 := Lib.hid (below_alloc w (.cells #[.int .u8 0, .int .u8 0] 58))
  have N0 := Lib.hid (heap_alloc_new w (.cells #[.int .u8 0, .int .u8 0] 58))
  obtain ⟨W0, hW0⟩ : ∃ W0, W0 = w.alloc (.cells #[.int .u8 0, .int .u8 0] 58) := ⟨_, rfl⟩
  rw [← hW0] at H0 B0 N0
  obtain ⟨s, hs⟩ : ∃ s, s = w.heap.size := ⟨_, rfl⟩
  rw [← hs] at N0
  have HW0 := Lib.hid hW0.symm
  have HS := Lib.hid hs.symm
  have hsb : s ≠ b := by omega
  have HSB := Lib.hid hsb
  have HBS : Hid (b < s ∧ w.heap.size ≤ s) := Lib.hid ⟨by omega, by omega⟩
  clear hW0 hs hsb h hlt
  rcases Nat.lt_or_ge i L.length with hi | hi
  · rw [nx_lt hi]
    simp only [Rd.andThen]
    have HI := Lib.hid hi
    clear hi
    obtain ⟨x, hx⟩ : ∃ x, x = L[i]?.getD 0 := ⟨_, rfl⟩
    rw [← hx]
    have HX := Lib.hid hx.symm
    clear hx
    rcases Nat.lt_or_ge (i + 1) L.length with hj | hj
    · rw [nx_lt hj]
      simp only
      have HJ := Lib.hid hj
      clear hj
      obtain ⟨y, hy⟩ : ∃ y, y = L[i + 1]?.getD 0 := ⟨_, rfl⟩
      rw [← hy]
      have HY := Lib.hid hy.symm
      clear hy
      obtain ⟨R, hR⟩ : ∃ R, R = (if Attr.chk kind x y = true then Rd.ok (x, y) (i + 1 + 1) else Rd.bad .unfit) := ⟨_, rfl⟩
      rw [← hR]
      have HR := Lib.hid hR
      clear hR
      go_enter Tryd.func52, Tryd.ntmps52
      go_wp2_with fail
      rw [HW0.out, HS.out]
      refine (next_ok H0.out HI.out).mono ?_
      rw [HX.out]
      rintro e W1 ⟨rfl, h1, t1⟩
      have b2 := below_alloc W1 (.cells #[.int .u8 x, .int .u8 0] 58)
      have k2 := heap_alloc_new W1 (.cells #[.int .u8 x, .int .u8 0] 58)
      obtain ⟨W2, hW2⟩ : ∃ W2, W2 = W1.alloc (.cells #[.int .u8 x, .int .u8 0] 58) := ⟨_, rfl⟩
      rw [← hW2] at b2 k2
      obtain ⟨q, hq⟩ : ∃ q, q = W1.heap.size := ⟨_, rfl⟩
      rw [← hq] at k2
      have hqb : q ≠ b := by have := lt_of_block h1.box; omega
      have n2 := (b2.block s (Nat.lt_of_lt_of_le (lt_of_block N0.out) t1.size)).trans ((t1.block s (lt_of_block N0.out) HSB.out).trans N0.out)
      have hsq : s ≠ q := by have := Nat.lt_of_lt_of_le (lt_of_block N0.out) t1.size; omega
      have H2 := Lib.hid (h1.below b2)
      have T2 := Lib.hid (t1.trans (Turn.of_below b2))
      have K2 := Lib.hid k2
      have N2 := Lib.hid n2
      have HW2 := Lib.hid hW2.symm
      have HQ := Lib.hid hq.symm
      have HQB := Lib.hid hqb
      have HBQ : Hid (b < q) := Lib.hid (by have := lt_of_block h1.box; omega)
      have HQW : Hid (w.heap.size ≤ q) := Lib.hid (by have := t1.size; have := B0.out.size; omega)
      have HSQ := Lib.hid hsq
      clear h1 t1 b2 k2 hW2 hq hqb n2 hsq
      go_upto_region 2 with fail
      rw [HW2.out, HQ.out]
      go_wp2_with fail
      refine (next_ok H2.out HJ.out).mono ?_
      rw [HY.out]
      rintro e W3 ⟨rfl, h3, t3⟩
      have k3 := (t3.block q (lt_of_block K2.out) HQB.out).trans K2.out
      have n3 := (t3.block s (lt_of_block N2.out) HSB.out).trans N2.out
      have c3 : W3.cell? ⟨q, 1, none⟩ = some (.int .u8 0) := by simp [World.cell?, k3]
      have f3 : W3.frozen? ⟨q, 1, none⟩ = false := by simp [World.frozen?, k3]
      have k4 : (W3.setCell ⟨q, 1, none⟩ (.int .u8 y)).heap[q]? = some (.cells #[.int .u8 x, .int .u8 y] 58 (0, 0)) := by
        have := heap_set k3 1 (.int .u8 y)
        simpa using this
      have n4 := ((turn_set W3 q 1 (.int .u8 y)).block s (lt_of_block n3) HSQ.out).trans n3
      have hbq : b < q := HBQ.out
      have h4 := h3.high ((turn_set W3 q 1 (.int .u8 y)).mono fun k hk => by rw [show k = q from hk]; exact hbq)
      have t4 : Turn (At b) w (W3.setCell ⟨q, 1, none⟩ (.int .u8 y)) := turn_new (((Turn.of_below B0.out).trans T2.out).trans t3) HQW.out 1 _
      have l4 := load_pair k4
      obtain ⟨W4, hW4⟩ : ∃ W4, W4 = W3.setCell ⟨q, 1, none⟩ (.int .u8 y) := ⟨_, rfl⟩
      rw [← hW4] at k4 n4 h4 t4 l4
      have H4 := Lib.hid h4
      have T4 := Lib.hid t4
      have K4 := Lib.hid k4
      have N4 := Lib.hid n4
      have HW4 := Lib.hid hW4.symm
      have c40 : W4.cell? ⟨q, 0, none⟩ = some (.int .u8 x) := by simp [World.cell?, k4]
      have c41 : W4.cell? ⟨q, 1, none⟩ = some (.int .u8 y) := by simp [World.cell?, k4]
      clear k3 n3 k4 n4 h4 t4 hbq hW4 h3 t3
      go_upto_region 3 with fail
      rw [HW4.out]
      clear c3 f3
      go_wp2_with fail
      refine (Attr.check_any kind x y W4).mono ?_
      unfold Attr.chkE
      rintro e W5 ⟨rfl, b5⟩
      have k5 := (b5.block q (lt_of_block K4.out)).trans K4.out
      have n5 := (b5.block s (lt_of_block N4.out)).trans N4.out
      have q0 : W5.cell? ⟨q, 0, none⟩ = some (.int .u8 x) := by simp [World.cell?, k5]
      have q1 : W5.cell? ⟨q, 1, none⟩ = some (.int .u8 y) := by simp [World.cell?, k5]
      have f50 : W5.frozen? ⟨s, 0, none⟩ = false := by simp [World.frozen?, n5]
      have f51 : W5.frozen? ⟨s, 1, none⟩ = false := by simp [World.frozen?, n5]
      have c50 : W5.cell? ⟨s, 0, none⟩ = some (.int .u8 0) := by simp [World.cell?, n5]
      have c51 : W5.cell? ⟨s, 1, none⟩ = some (.int .u8 0) := by simp [World.cell?, n5]
      have H5 := Lib.hid (H4.out.below b5)
      have T5 := Lib.hid (T4.out.trans (Turn.of_below b5))
      have N5 := Lib.hid n5
      clear l4 k5 n5 b5 c40 c41
      by_cases hc : Attr.chk kind x y = true
      · rw [if_pos hc]
        have hR := HR.out
        rw [if_pos hc] at hR
        subst hR
        clear hc HR
        go_wp2_with fail
        have n6 := heap_set (heap_set N5.out 0 (.int .u8 x)) 1 (.int .u8 y)
        have h6 := (H5.out.high ((turn_set _ s 0 (.int .u8 x)).mono fun k hk => by rw [show k = s from hk]; exact HBS.out.1)).high ((turn_set _ s 1 (.int .u8 y)).mono fun k hk => by rw [show k = s from hk]; exact HBS.out.1)
        have t6 := turn_new (turn_new T5.out HBS.out.2 0 (.int .u8 x)) HBS.out.2 1 (.int .u8 y)
        refine bodyPost_ret (results_row rfl _ _ s _ rfl (load_pair n6)) rfl ?_
        exact ⟨t6, ⟨_, rfl, rfl⟩, h6⟩
      · rw [if_neg hc]
        have hR := HR.out
        rw [if_neg hc] at hR
        subst hR
        clear hc HR
        go_wp2_with fail
        exact ⟨rfl, T5.out, rfl⟩
    · rw [nx_end hj]
      simp only
      have HJ := Lib.hid hj
      clear hj
      go_enter Tryd.func52, Tryd.ntmps52
      go_wp2_with fail
      rw [HW0.out, HS.out]
      refine (next_ok H0.out HI.out).mono ?_
      rw [HX.out]
      rintro e W1 ⟨rfl, h1, t1⟩
      have b2 := below_alloc W1 (.cells #[.int .u8 x, .int .u8 0] 58)
      obtain ⟨W2, hW2⟩ : ∃ W2, W2 = W1.alloc (.cells #[.int .u8 x, .int .u8 0] 58) := ⟨_, rfl⟩
      rw [← hW2] at b2
      have H2 := Lib.hid (h1.below b2)
      have T2 := Lib.hid (t1.trans (Turn.of_below b2))
      have HW2 := Lib.hid hW2.symm
      clear h1 t1 b2 hW2
      go_upto_region 2 with fail
      rw [HW2.out]
      go_wp2_with fail
      refine (next_end H2.out (by have := H2.out.le; have := HJ.out; omega)).mono ?_
      rintro e W3 ⟨rfl, t3⟩
      unfold thrown
      have T3 := Lib.hid ((Turn.of_below (S := At b) B0.out).trans (T2.out.trans t3))
      clear t3
      go_wp2_with fail
      exact ⟨rfl, T3.out, rfl⟩
  · rw [nx_end hi]
    simp only [Rd.andThen]
    have HI := Lib.hid hi
    clear hi
    go_enter Tryd.func52, Tryd.ntmps52
    go_wp2_with fail
    rw [HW0.out, HS.out]
    refine (next_end H0.out (by have := H0.out.le; have := HI.out; omega)).mono ?_
    rintro e W2 ⟨rfl, t2⟩
    unfold thrown
    have T2 := Lib.hid ((Turn.of_below (S := At b) B0.out).trans t2)
    clear t2
    go_wp2_with fail
    exact ⟨rfl, T2.out, rfl⟩
end
end Go.Proofs.YtjeknociobbhpaaDoor.Ord
