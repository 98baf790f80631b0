/-
  The reference's clock: contract of its Next.
-/
import Derived.Test.YtndhhpiklaffoaaClockPlaysA
import Derived.Laws.ResultCell
namespace Go.Proofs.Ytndhhpiklaffoaa.Clock
open Go.RowKit
set_option linter.unusedVariables false

theorem results_row_tmp {fn : Func} {p u : Tmp} {ty : TypeId} (h : fn.results = #[.cell p ty, .tmp u]) (tmps : Array Value) (w : World) (g : Nat) (cs : Array Value)
    (hp : tmps.getD p undef = .pointer (some ⟨g, 0, none⟩)) (hrun : (loadVar ty ⟨g, 0, none⟩).run Try.prog w = .ok (.agg cs) w) :
    (results fn tmps).run Try.prog w = .ok (.tuple #[.agg cs, tmps.getD u undef]) w := by
  rw [results_cell_tmp h, hp]
  simp [asAddr, hrun, Result.andThen]
theorem size_ra : (Try.prog.info? 75).map (·.size) = some 2 := by kernel_rfl
theorem info_ra2 : (Try.prog.info? 75).map (fun i => (i.zero, i.size)) = some (some (.agg #[.int .i64 0, .int .i64 0]), 2) := by kernel_rfl
/-- What Next holds: its argument, its result, the best so far. -/
structure NS (s : Nat) (w : World) (now : Int) (c0 : Value) (m : Int × Int) (wr : World) : Prop where
  box : wr.heap[s]? = some (.cells #[.int .i64 now, c0] 60 (0, 0))
  res : wr.heap[s + 1]? = some (.cells #[.int .i64 0, .int .i64 0] 75 (0, 0))
  best : wr.heap[s + 2]? = some (.cells #[.int .i64 m.2, .int .i64 m.1] 75 (0, 0))
  old : Below s w wr
def NextRel (R : List (Int × Int)) (n s : Nat) (w : World) (now : Int) (c0 i : Value) (wr : World) : Prop :=
  ∃ (k : Nat) (m : Int × Int), k ≤ n ∧ i = .int .i64 k ∧ m ∈ R ∧ (∀ j, j < k → ¬ Lt (R.getD j (0, 0)) m) ∧ NS s w now c0 m wr
theorem NS.alloc {s : Nat} {w wr : World} {now : Int} {c0 : Value} {m : Int × Int} (h : NS s w now c0 m wr) (o : Obj) : NS s w now c0 m (wr.alloc o) := by
  have hl := lt_of_block h.best
  exact ⟨(Below.heap_alloc _ _ _ (by omega)).trans h.box, (Below.heap_alloc _ _ _ (by omega)).trans h.res, (Below.heap_alloc _ _ _ hl).trans h.best, h.old.alloc (by omega) o⟩
theorem NS.put {s : Nat} {w wr : World} {now : Int} {c0 : Value} {m : Int × Int} (h : NS s w now c0 m wr) (p : Int × Int) : NS s w now c0 p ((wr.setCell ⟨s + 2, 0, none⟩ (.int .i64 p.2)).setCell ⟨s + 2, 1, none⟩ (.int .i64 p.1)) := by
  refine ⟨?_, ?_, heap_set (heap_set h.best 0 _) 1 _, (h.old.setCell (by show s ≤ s + 2; omega) _).setCell (by show s ≤ s + 2; omega) _⟩
  · rw [Below.heap_setCell _ _ _ _ (by show s ≠ s + 2; omega), Below.heap_setCell _ _ _ _ (by show s ≠ s + 2; omega)]; exact h.box
  · rw [Below.heap_setCell _ _ _ _ (by show s + 1 ≠ s + 2; omega), Below.heap_setCell _ _ _ _ (by show s + 1 ≠ s + 2; omega)]; exact h.res
theorem ns_new {s : Nat} {w W0 : World} (now : Int) (c0 : Value) (m : Int × Int) (hs : s = w.heap.size) (hW : W0 = ((w.alloc (.cells #[.int .i64 now, c0] 60)).alloc (.cells #[.int .i64 0, .int .i64 0] 75)).alloc (.cells #[.int .i64 m.2, .int .i64 m.1] 75)) : NS s w now c0 m W0 := by
  have z1 : ∀ o, (w.alloc o).heap.size = s + 1 := fun o => by rw [World.size_alloc, hs]
  have z2 : ∀ o o', ((w.alloc o).alloc o').heap.size = s + 1 + 1 := fun o o' => by rw [World.size_alloc, z1]
  refine ⟨?_, ?_, ?_, ?_⟩
  · rw [hW, Below.heap_alloc _ _ _ (by rw [z2]; omega), Below.heap_alloc _ _ _ (by rw [z1]; omega), hs]
    exact heap_alloc_new w _
  · rw [hW, Below.heap_alloc _ _ _ (by rw [z2]; omega)]
    have := heap_alloc_new (w.alloc (.cells #[.int .i64 now, c0] 60)) (.cells #[.int .i64 0, .int .i64 0] 75)
    rw [z1] at this
    exact this
  · have := heap_alloc_new ((w.alloc (.cells #[.int .i64 now, c0] 60)).alloc (.cells #[.int .i64 0, .int .i64 0] 75)) (.cells #[.int .i64 m.2, .int .i64 m.1] 75)
    rw [z2, ← hW] at this
    exact this
  · rw [hW, hs]
    exact (((Below.refl _ w).alloc (Nat.le_refl _) _).alloc (by simp) _).alloc (by simp; omega) _

set_option maxRecDepth 100000 in
set_option maxHeartbeats 4000000 in
theorem rnext_some (base : Nat) (now : Int) (v : Value) (R : List (Int × Int)) (w : World) (h : RefRow base w v R) (hl : R.length ≤ 200) (hne : R ≠ []) :
    Calls Try.prog 35 #[.agg #[.int .i64 now, v]] w fun e w' => ∃ m, e = .returned (.tuple #[.agg #[.int .i64 m.2, .int .i64 m.1], .bool true]) ∧ m ∈ R ∧ (∀ q ∈ R, ¬ Lt q m) ∧ Below w.heap.size w w' := by
  have hz := (zero_of_info info_ra2).1
  rcases h.lit with ⟨rfl, rfl⟩ | ⟨g, cap, rfl, hbg, hgw, hc⟩
  · exact absurd rfl hne
  · obtain ⟨n, hn⟩ : ∃ n, n = R.length := ⟨_, rfl⟩
    rw [← hn]
    have hn200 : n ≤ 200 := by omega
    have hn0 : 0 < n := by rw [hn]; exact List.length_pos_iff.2 hne
    have hne0 : ((n : Int) == 0) = false := by simp; omega
    obtain ⟨s, hs⟩ : ∃ s, s = w.heap.size := ⟨_, rfl⟩
    obtain ⟨q, hq⟩ : ∃ q, q = R.getD 0 (0, 0) := ⟨_, rfl⟩
    obtain ⟨h1, h2⟩ := hc 0 (by omega)
    have d1 : w.cell? ⟨g, 0, none⟩ = some (.int .i64 q.2) := by rw [hq]; exact h1
    have d2 : w.cell? ⟨g, 1, none⟩ = some (.int .i64 q.1) := by rw [hq]; exact h2
    have hqR : q ∈ R := by
      rw [hq]
      have : 0 < R.length := by omega
      simp [List.getD, this]
    obtain ⟨W0, hW⟩ : ∃ W0, W0 = ((w.alloc (.cells #[.int .i64 now, .slice (some ⟨g, 0, none⟩) n cap] 60)).alloc (.cells #[.int .i64 0, .int .i64 0] 75)).alloc (.cells #[.int .i64 q.2, .int .i64 q.1] 75) := ⟨_, rfl⟩
    have D0 := ns_new now (.slice (some ⟨g, 0, none⟩) n cap) q hs hW
    have HN := Lib.hid hn
    have HC := Lib.hid hc
    have HD0 := Lib.hid D0
    have HW := Lib.hid hW.symm
    have HS := Lib.hid hs.symm
    have HQ := Lib.hid hqR
    clear h hc hn hl hne hq h1 h2 hW D0 hs hqR
    go_enter Try.func35, Try.ntmps35
    go_wp2_with fail
    rw [HW.out, HS.out]
    go_loopw [5] (fun i wr => NextRel R n s w now (.slice (some ⟨g, 0, none⟩) n cap) i wr) (fun i _ => n - (intOf i).toNat)
    case atStart => exact ⟨0, q, by omega, rfl, HQ.out, fun j hj => absurd hj (by omega), HD0.out⟩
    case round =>
      obtain ⟨k, m, hk, rfl, hmR, hmin, D⟩ := hrel
      have HMR := Lib.hid hmR
      have HMIN := Lib.hid hmin
      have HD := Lib.hid D
      obtain ⟨m1, m2⟩ := m
      have b1 : wr.cell? ⟨s, 1, none⟩ = some (.slice (some ⟨g, 0, none⟩) n cap) := by simp [World.cell?, D.box]
      have e0 : wr.cell? ⟨s + 2, 0, none⟩ = some (.int .i64 m2) := by simp [World.cell?, D.best]
      have e1 : wr.cell? ⟨s + 2, 1, none⟩ = some (.int .i64 m1) := by simp [World.cell?, D.best]
      have fe : ∀ o, wr.frozen? ⟨s + 2, o, none⟩ = false := fun o => by simp [World.frozen?, D.best]
      have hsl := lt_of_block D.best
      clear D hmR hmin d1 d2
      by_cases hkn : k < n
      · have hkR : k < R.length := by have := HN.out; omega
        obtain ⟨h1, h2⟩ := HC.out k hkR
        have d1 := (HD.out.old.cell (p := ⟨g, k * 2, none⟩) (by show g < s; rw [← HS.out]; exact hgw)).trans h1
        have d2 := (HD.out.old.cell (p := ⟨g, k * 2 + 1, none⟩) (by show g < s; rw [← HS.out]; exact hgw)).trans h2
        obtain ⟨p, hp⟩ : ∃ p, p = R.getD k (0, 0) := ⟨_, rfl⟩
        rw [← hp] at d1 d2
        have hpR : p ∈ R := by rw [hp]; simp [List.getD, hkR]
        have HPR := Lib.hid hpR
        have HP := Lib.hid hp
        obtain ⟨p1, p2⟩ := p
        clear hp h1 h2 hpR
        have HA := Lib.hid (HD.out.alloc (.cells #[.int .i64 p2, .int .i64 p1] 75))
        by_cases hlt : Lt (p1, p2) (m1, m2)
        · have hrel' : NextRel R n s w now (.slice (some ⟨g, 0, none⟩) n cap) (.int .i64 ((k + 1 : Nat) : Int)) (((wr.setCell ⟨s + 2, 0, none⟩ (.int .i64 p2)).setCell ⟨s + 2, 1, none⟩ (.int .i64 p1)).alloc (.cells #[.int .i64 p2, .int .i64 p1] 75)) := by
            refine ⟨k + 1, (p1, p2), by omega, rfl, HPR.out, fun j hj => ?_, (HD.out.put (p1, p2)).alloc _⟩
            by_cases hjk : j < k
            · exact fun h => HMIN.out j hjk (h.trans hlt)
            · obtain rfl : j = k := by omega
              rw [← HP.out]; unfold Lt; simp
          have HREL := Lib.hid hrel'
          clear hrel'
          unfold Lt at hlt
          simp only at hlt
          rcases hlt with h | ⟨rfl, h⟩
          · go_wp2
            go_roundw
            case rel => exact HREL.out
            case measure => simp [intOf]; omega
          · go_wp2
            go_roundw
            case rel => exact HREL.out
            case measure => simp [intOf]; omega
        · have hrel' : NextRel R n s w now (.slice (some ⟨g, 0, none⟩) n cap) (.int .i64 ((k + 1 : Nat) : Int)) (wr.alloc (.cells #[.int .i64 p2, .int .i64 p1] 75)) := by
            refine ⟨k + 1, (m1, m2), by omega, rfl, HMR.out, fun j hj => ?_, HA.out⟩
            by_cases hjk : j < k
            · exact HMIN.out j hjk
            · obtain rfl : j = k := by omega
              rw [← HP.out]; exact hlt
          have HREL := Lib.hid hrel'
          clear hrel'
          unfold Lt at hlt
          simp only at hlt
          by_cases he : p1 = m1
          · subst he
            have h : ¬ p2 < m2 := fun h => hlt (.inr ⟨rfl, h⟩)
            clear hlt
            go_wp2
            go_roundw
            case rel => exact HREL.out
            case measure => simp [intOf]; omega
          · have h : ¬ p1 < m1 := fun h => hlt (.inl h)
            have he' : (p1 == m1) = false := by simpa using he
            clear hlt
            go_wp2
            go_roundw
            case rel => exact HREL.out
            case measure => simp [intOf]; omega
      · obtain rfl : k = n := by omega
        have fr : ∀ o, wr.frozen? ⟨s + 1, o, none⟩ = false := fun o => by simp [World.frozen?, HD.out.res]
        have r0 : wr.cell? ⟨s + 1, 0, none⟩ = some (.int .i64 0) := by simp [World.cell?, HD.out.res]
        have r1 : wr.cell? ⟨s + 1, 1, none⟩ = some (.int .i64 0) := by simp [World.cell?, HD.out.res]
        have hfin := heap_set (heap_set HD.out.res 0 (.int .i64 m2)) 1 (.int .i64 m1)
        have HRUN := Lib.hid (run_loadVar_row _ (s + 1) 75 75 #[.int .i64 m2, .int .i64 m1] (0, 0) _ hfin Try.underlying75 rfl size_ra)
        have hold : Below s w ((wr.setCell ⟨s + 1, 0, none⟩ (.int .i64 m2)).setCell ⟨s + 1, 1, none⟩ (.int .i64 m1)) := (HD.out.old.setCell (by show s ≤ s + 1; omega) _).setCell (by show s ≤ s + 1; omega) _
        have HOLD := Lib.hid hold
        clear hold
        clear hfin
        go_wp2_with fail
        (try simp only [Exit.inBlock, Exit.then])
        refine bodyPost_ret (results_row_tmp rfl _ _ (s + 1) _ rfl HRUN.out) rfl ?_
        refine ⟨(m1, m2), rfl, HMR.out, fun q hq => ?_, by rw [HS.out]; exact HOLD.out⟩
        obtain ⟨j, hj, rfl⟩ := List.getElem_of_mem hq
        have := HMIN.out j (by have := HN.out; omega)
        simpa [List.getD, hj] using this
end Go.Proofs.Ytndhhpiklaffoaa.Clock
