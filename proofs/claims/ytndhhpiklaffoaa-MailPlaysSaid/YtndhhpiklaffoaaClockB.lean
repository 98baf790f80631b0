/-
  Contracts of clock's small calls, and of the library's comparisons that it leans on.
-/
import Derived.Test.YtndhhpiklaffoaaClockA
import Derived.Deep.RegionHeld3
namespace Go.Proofs.Ytndhhpiklaffoaa.Clock
open Go.RowKit
open Mail (Turn ret_int ret_bool)
set_option linter.unusedVariables false

section
variable {w : World} {b : Nat} {now : Int} {L : List (Int × Int)}
theorem now_any (h : ClockAt w b now L) : Calls Try.prog 37 #[.pointer (some ⟨b, 0, none⟩)] w fun e w' => e = .returned (.int .i64 now) ∧ w = w' := by
  have h0 := h.cellNow
  go_enter Try.func37, Try.ntmps37
  go_wp2
  go_ret
  exact ⟨rfl, rfl⟩
theorem len_any (h : ClockAt w b now L) : Calls Try.prog 38 #[.pointer (some ⟨b, 0, none⟩)] w fun e w' => e = .returned (.int .i64 L.length) ∧ w = w' := by
  have h0 := h.cellMany
  go_enter Try.func38, Try.ntmps38
  go_wp2
  go_ret
  exact ⟨rfl, rfl⟩
theorem next_none (h : ClockAt w b now []) : Calls Try.prog 36 #[.pointer (some ⟨b, 0, none⟩)] w fun e w' => e = .returned (.tuple #[.int .i64 0, .bool false]) ∧ w = w' := by
  have h0 := h.cellMany
  go_enter Try.func36, Try.ntmps36
  go_wp2
  go_ret2
  exact ⟨rfl, rfl⟩
theorem next_some {p : Int × Int} (h : ClockAt w b now (p :: L)) : Calls Try.prog 36 #[.pointer (some ⟨b, 0, none⟩)] w fun e w' => e = .returned (.tuple #[.int .i64 p.1, .bool true]) ∧ w = w' := by
  have h0 := h.cellMany
  have h1 : w.cell? ⟨b, 1, none⟩ = some (.int .i64 p.1) := h.cellDue 0 (by simp)
  obtain ⟨n, hn⟩ : ∃ n, n = (p :: L).length := ⟨_, rfl⟩
  rw [← hn] at h0
  have ht : ((n : Int) == 0) = false := by simp at hn; simp; omega
  clear hn
  go_enter Try.func36, Try.ntmps36
  go_wp2
  go_ret2
  exact ⟨rfl, rfl⟩
theorem there_any (h : ClockAt w b now L) : Calls Try.prog 48 #[.pointer (some ⟨b, 0, none⟩)] w fun e w' => e = .returned (.slice (some ⟨b, 1, none⟩) L.length 64) ∧ ∃ n, w' = w.drewN n := by
  have h0 := h.cellMany
  have hl := h.le
  obtain ⟨n, hn⟩ : ∃ n, n = L.length := ⟨_, rfl⟩
  rw [← hn] at h0 hl ⊢
  have hli : (n : Int) ≤ 64 := by omega
  clear hn
  go_enter Try.func48, Try.ntmps48
  go_wp2
  go_quiet (fail)
  go_wp2
  go_ret
  exact ⟨rfl, _, rfl⟩
/-- A time that is so many ticks on. -/
def lateI (now t : Int) : Int := now + min t (1099511627776 - now)
theorem later_any (t : Int) (h : ClockAt w b now L) (h0 : 0 ≤ now) (h1 : now ≤ 1099511627776) (h2 : 0 ≤ t) : Calls Try.prog 46 #[.pointer (some ⟨b, 0, none⟩), .int .i64 t] w fun e w' => e = .returned (.int .i64 (lateI now t)) ∧ ∃ n, w' = w.drewN n := by
  have hc := h.cellNow
  by_cases hm : t ≤ 1099511627776 - now
  · have hl : lateI now t = now + t := by unfold lateI; omega
    rw [hl]
    clear hl
    go_enter Try.func46, Try.ntmps46
    go_wp2
    go_quiet (fail)
    go_wp2
    go_ret
    exact ⟨rfl, _, rfl⟩
  · have hl : lateI now t = now + (1099511627776 - now) := by unfold lateI; omega
    rw [hl]
    clear hl
    go_enter Try.func46, Try.ntmps46
    go_wp2
    go_quiet (fail)
    go_wp2
    go_ret
    exact ⟨rfl, _, rfl⟩
end

/-! ### The library's comparisons -/
def cmpI (x y : Int) : Int := if x < y then -1 else if y < x then 1 else 0
theorem isNaN64_any (x : Int) (w : World) : Calls Try.prog 58 #[.int .i64 x] w fun e w' => e = .returned (.bool false) ∧ w = w' := by
  go_enter Try.func58, Try.ntmps58
  go_wp2
  go_ret
  exact ⟨by simp, rfl⟩
theorem isNaN_any (x : Int) (w : World) : Calls Try.prog 59 #[.int .i64 x] w fun e w' => e = .returned (.bool false) ∧ w = w' := by
  go_enter Try.func59, Try.ntmps59
  go_wp2
  go_ret
  exact ⟨by simp, rfl⟩
theorem cmp64_any (x y : Int) (w : World) : Calls Try.prog 56 #[.int .i64 x, .int .i64 y] w fun e w' => e = .returned (.int .i64 (cmpI x y)) ∧ w = w' := by
  unfold cmpI
  by_cases h1 : x < y
  · rw [if_pos h1]
    go_enter Try.func56, Try.ntmps56
    go_wp2_with (go_at_call 58; refine (isNaN64_any _ _).mono ?_; rintro e w' ⟨rfl, rfl⟩)
    go_ret
    exact ⟨rfl, rfl⟩
  · rw [if_neg h1]
    by_cases h2 : y < x
    · rw [if_pos h2]
      go_enter Try.func56, Try.ntmps56
      go_wp2_with (go_at_call 58; refine (isNaN64_any _ _).mono ?_; rintro e w' ⟨rfl, rfl⟩)
      go_ret
      exact ⟨rfl, rfl⟩
    · rw [if_neg h2]
      go_enter Try.func56, Try.ntmps56
      go_wp2_with (go_at_call 58; refine (isNaN64_any _ _).mono ?_; rintro e w' ⟨rfl, rfl⟩)
      go_ret
      exact ⟨rfl, rfl⟩
theorem cmp_any (x y : Int) (w : World) : Calls Try.prog 57 #[.int .i64 x, .int .i64 y] w fun e w' => e = .returned (.int .i64 (cmpI x y)) ∧ w = w' := by
  unfold cmpI
  by_cases h1 : x < y
  · rw [if_pos h1]
    go_enter Try.func57, Try.ntmps57
    go_wp2_with (go_at_call 59; refine (isNaN_any _ _).mono ?_; rintro e w' ⟨rfl, rfl⟩)
    go_ret
    exact ⟨rfl, rfl⟩
  · rw [if_neg h1]
    by_cases h2 : y < x
    · rw [if_pos h2]
      go_enter Try.func57, Try.ntmps57
      go_wp2_with (go_at_call 59; refine (isNaN_any _ _).mono ?_; rintro e w' ⟨rfl, rfl⟩)
      go_ret
      exact ⟨rfl, rfl⟩
    · rw [if_neg h2]
      go_enter Try.func57, Try.ntmps57
      go_wp2_with (go_at_call 59; refine (isNaN_any _ _).mono ?_; rintro e w' ⟨rfl, rfl⟩)
      go_ret
      exact ⟨rfl, rfl⟩
/-- The first of two numbers that isn't 0. -/
def orI (x y : Int) : Int := if x = 0 then y else x
theorem or_any (g : Nat) (x y : Int) (w : World) (h0 : w.cell? ⟨g, 0, none⟩ = some (.int .i64 x)) (h1 : w.cell? ⟨g, 1, none⟩ = some (.int .i64 y)) :
    Calls Try.prog 55 #[.slice (some ⟨g, 0, none⟩) 2 2] w fun e w' => e = .returned (.int .i64 (orI x y)) ∧ w = w' := by
  go_enter Try.func55, Try.ntmps55
  go_wp2
  go_loop [8] (fun i => ∃ k : Nat, k ≤ 2 ∧ i = .int .i64 k ∧ (1 ≤ k → x = 0) ∧ (2 ≤ k → y = 0)) (fun i => 2 - (intOf i).toNat)
  case atStart => exact ⟨0, by omega, rfl, fun h => absurd h (by omega), fun h => absurd h (by omega)⟩
  case round =>
    obtain ⟨k, hk, rfl, hx, hy⟩ := hrel
    rcases (show k = 0 ∨ k = 1 ∨ k = 2 from by omega) with rfl | rfl | rfl
    · clear hx hy
      by_cases hx0 : x = 0
      · have ht : (x != 0) = false := by simp [hx0]
        have HX := Lib.hid hx0
        clear hx0
        go_wp2
        go_round
        case rel => exact ⟨1, by omega, by go_num, fun _ => HX.out, fun h => absurd h (by omega)⟩
        case measure => simp [intOf]
      · have ht : (x != 0) = true := by simp [hx0]
        have HX := Lib.hid hx0
        clear hx0
        go_wp2
        go_ret
        exact ⟨ret_int (by unfold orI; rw [if_neg HX.out]), rfl⟩
    · have hx0 := hx (by omega)
      have HX := Lib.hid hx0
      clear hx hy hx0
      by_cases hy0 : y = 0
      · have ht : (y != 0) = false := by simp [hy0]
        have HY := Lib.hid hy0
        clear hy0
        go_wp2
        go_round
        case rel => exact ⟨2, by omega, by go_num, fun _ => HX.out, fun _ => HY.out⟩
        case measure => simp [intOf]
      · have ht : (y != 0) = true := by simp [hy0]
        have HY := Lib.hid hy0
        clear hy0
        go_wp2
        go_ret
        exact ⟨ret_int (by unfold orI; rw [if_pos HX.out]), rfl⟩
    · have hx0 := hx (by omega)
      have hy0 := hy (by omega)
      have HX := Lib.hid hx0
      have HY := Lib.hid hy0
      clear hx hy hx0 hy0
      go_wp2
      go_ret
      exact ⟨ret_int (by unfold orI; rw [if_pos HX.out, HY.out]), rfl⟩
/-- Which of two alarms comes first. -/
def ordI (p q : Int × Int) : Int := orI (cmpI p.1 q.1) (cmpI p.2 q.2)
theorem four (w : World) (x y z u : Value) (t : TypeId) :
    ((w.alloc (.cells #[x, y] t)).alloc (.cells #[z, u] t)).cell? ⟨w.heap.size, 0, none⟩ = some x ∧ ((w.alloc (.cells #[x, y] t)).alloc (.cells #[z, u] t)).cell? ⟨w.heap.size, 1, none⟩ = some y ∧
    ((w.alloc (.cells #[x, y] t)).alloc (.cells #[z, u] t)).cell? ⟨w.heap.size + 1, 0, none⟩ = some z ∧ ((w.alloc (.cells #[x, y] t)).alloc (.cells #[z, u] t)).cell? ⟨w.heap.size + 1, 1, none⟩ = some u :=
  ⟨by simp [go_sem], by simp [go_sem], by simp [go_sem], by simp [go_sem]⟩
theorem bel_alloc {w W : World} {o : Obj} (h : Below w.heap.size w W) : Below w.heap.size w (W.alloc o) := h.alloc h.size o
set_option maxHeartbeats 1000000 in
theorem order_any (p1 p2 q1 q2 : Int) (w : World) :
    Calls Try.prog 53 #[.agg #[.int .i64 p1, .int .i64 p2], .agg #[.int .i64 q1, .int .i64 q2]] w fun e w' => e = .returned (.int .i64 (ordI (p1, p2) (q1, q2))) ∧ Below w.heap.size w w' := by
  obtain ⟨f1, f2, f3, f4⟩ := four w (.int .i64 p1) (.int .i64 p2) (.int .i64 q1) (.int .i64 q2) 54
  have hb0 : Below w.heap.size w ((w.alloc (.cells #[.int .i64 p1, .int .i64 p2] 54)).alloc (.cells #[.int .i64 q1, .int .i64 q2] 54)) := ((Below.refl _ w).alloc (Nat.le_refl _) _).alloc (by simp) _
  go_enter Try.func53, Try.ntmps53
  go_wp2_with fail
  go_region_held3 (fun w' => w'.cell? ⟨w.heap.size, 0, none⟩ = some (.int .i64 p1) ∧ w'.cell? ⟨w.heap.size, 1, none⟩ = some (.int .i64 p2) ∧ w'.cell? ⟨w.heap.size + 1, 0, none⟩ = some (.int .i64 q1) ∧ w'.cell? ⟨w.heap.size + 1, 1, none⟩ = some (.int .i64 q2) ∧ Below w.heap.size w w')
    ((refine ⟨?_, ?_, ?_, ?_, ?_⟩ <;> first | assumption | exact Below.drew (by assumption) | exact bel_alloc (And.right (And.right (And.right (And.right (by assumption))))) | go_keep))
    (first
    | (go_at_call 56; refine (cmp64_any _ _ _).mono ?_; rintro e w' ⟨rfl, rfl⟩)
    | (go_at_call 57; refine (cmp_any _ _ _).mono ?_; rintro e w' ⟨rfl, rfl⟩)
    | (go_at_call 55; refine (or_any _ (cmpI p1 q1) (cmpI p2 q2) _ (by simp [go_sem]) (by simp [go_sem])).mono ?_; rintro e w' ⟨rfl, rfl⟩))
  go_wp2
  go_ret
  exact ⟨rfl, (hb0.alloc hb0.size _).drew⟩

/-! ### Where an alarm stands -/
/-- The first place of a number, or the row's length. -/
def fi (L : List (Int × Int)) (id : Int) : Nat := L.findIdx fun p => p.2 == id
def has (L : List (Int × Int)) (id : Int) : Bool := decide (fi L id < L.length)
def idxI (L : List (Int × Int)) (id : Int) : Int := if has L id then (fi L id : Int) else -1
theorem fi_at {L : List (Int × Int)} {id : Int} {k : Nat} (hk : k < L.length) (h : (L.getD k (0, 0)).2 = id) (hn : ∀ j, j < k → (L.getD j (0, 0)).2 ≠ id) : fi L id = k := by
  unfold fi
  rw [List.findIdx_eq hk]
  refine ⟨by simpa [List.getD, hk] using h, fun j hj => ?_⟩
  have := hn j hj
  have hj' : j < L.length := by omega
  simpa [List.getD, hj'] using this
theorem fi_none {L : List (Int × Int)} {id : Int} (hn : ∀ j, j < L.length → (L.getD j (0, 0)).2 ≠ id) : fi L id = L.length := by
  unfold fi
  rw [List.findIdx_eq_length]
  intro p hp
  obtain ⟨j, hj, rfl⟩ := List.mem_iff_getElem.1 hp
  have := hn j hj
  simpa [List.getD, hj] using this
theorem is_any (g : Nat) (x y id : Int) (w : World) (hc : w.cell? ⟨g, 0, none⟩ = some (.int .i64 id)) (hg : g < w.heap.size) :
    Calls Try.prog 51 #[.agg #[.int .i64 x, .int .i64 y], .pointer (some ⟨g, 0, none⟩)] w fun e w' => e = .returned (.bool (y == id)) ∧ Below w.heap.size w w' := by
  go_enter Try.func51, Try.ntmps51
  go_wp2
  go_ret
  exact ⟨rfl, (Below.refl _ w).alloc (Nat.le_refl _) _⟩
set_option maxHeartbeats 1000000 in
theorem index_any {b g : Nat} {now id : Int} {L : List (Int × Int)} (w : World) (h : ClockAt w b now L) (hc : w.cell? ⟨g, 0, none⟩ = some (.int .i64 id)) :
    Calls Try.prog 50 #[.slice (some ⟨b, 1, none⟩) L.length 64, .func (.func 51) #[] #[.pointer (some ⟨g, 0, none⟩)]] w fun e w' => e = .returned (.int .i64 (idxI L id)) ∧ Below w.heap.size w w' := by
  obtain ⟨n, hn⟩ : ∃ n, n = L.length := ⟨_, rfl⟩
  have hl := h.le
  rw [← hn] at hl ⊢
  have HN := Lib.hid hn
  have HC := Lib.hid hc
  have HH := Lib.hid h
  clear hn hc h
  go_enter Try.func50, Try.ntmps50
  go_wp2
  go_loopw [8] (fun i wr => ∃ k : Nat, k ≤ n ∧ i = .int .i64 k ∧ Hid (∀ j, j < k → (L.getD j (0, 0)).2 ≠ id) ∧ Below w.heap.size w wr) (fun i _ => n - (intOf i).toNat)
  case atStart => exact ⟨0, by omega, rfl, fun j hj => absurd hj (by omega), Below.refl _ _⟩
  case round =>
    obtain ⟨k, hk, rfl, hno, hb⟩ := hrel
    by_cases hkn : k < n
    · have h1 := HH.out.below hb
      have d1 := h1.cellDue k (by have := HN.out; omega)
      have d2 := h1.cellId k (by have := HN.out; omega)
      have dc := (hb.cell (p := ⟨g, 0, none⟩) (World.block_lt_of_cell? w _ HC.out)).trans HC.out
      have hgl := World.block_lt_of_cell? _ _ dc
      obtain ⟨p, hp⟩ : ∃ p, p = L.getD k (0, 0) := ⟨_, rfl⟩
      rw [← hp] at d1 d2
      have HP := Lib.hid hp
      have HB := Lib.hid hb
      clear hp hb h1
      by_cases hid : p.2 = id
      · have ht : (p.2 == id) = true := by simpa using hid
        have HI := Lib.hid hid
        clear hid
        go_wp2_with (go_at_call 51; refine (is_any _ _ _ id _ dc hgl).mono ?_; rintro e w' ⟨rfl, hb'⟩; rw [ht])
        go_ret
        have hf := fi_at (k := k) (by have := HN.out; omega) (by rw [← HP.out]; exact HI.out) hno.out
        refine ⟨ret_int ?_, HB.out.trans (hb'.mono HB.out.size)⟩
        unfold idxI
        rw [show has L id = true by unfold has; rw [hf]; have := HN.out; simp; omega, if_pos rfl, hf]
      · have ht : (p.2 == id) = false := by simpa using hid
        have HI := Lib.hid hid
        clear hid
        go_wp2_with (go_at_call 51; refine (is_any _ _ _ id _ dc hgl).mono ?_; rintro e w' ⟨rfl, hb'⟩; rw [ht])
        go_roundw
        case rel =>
          refine ⟨k + 1, by omega, by go_num, fun j hj => ?_, HB.out.trans (hb'.mono HB.out.size)⟩
          by_cases hjk : j < k
          · exact hno.out j hjk
          · obtain rfl : j = k := by omega
            rw [← HP.out]; exact HI.out
        case measure => simp [intOf]; omega
    · obtain rfl : k = n := by omega
      go_wp2
      go_ret
      have hf := fi_none (L := L) (id := id) (by rw [← HN.out]; exact hno.out)
      exact ⟨ret_int (by unfold idxI; rw [show has L id = false by unfold has; rw [hf]; simp]; rfl), hb⟩
theorem find_any {b : Nat} {now id : Int} {L : List (Int × Int)} (w : World) (h : ClockAt w b now L) :
    Calls Try.prog 44 #[.pointer (some ⟨b, 0, none⟩), .int .i64 id] w fun e w' => e = .returned (.tuple #[.int .i64 (idxI L id), .bool (has L id)]) ∧ Below w.heap.size w w' := by
  have h1 : ClockAt (w.alloc (.cells #[.int .i64 id] 3)) b now L := h.below ((Below.refl _ w).alloc (Nat.le_refl _) _)
  have hb0 : Below w.heap.size w (w.alloc (.cells #[.int .i64 id] 3)) := (Below.refl _ w).alloc (Nat.le_refl _) _
  have hc : (w.alloc (.cells #[.int .i64 id] 3)).cell? ⟨w.heap.size, 0, none⟩ = some (.int .i64 id) := by simp [go_sem]
  have hi : decide (0 ≤ idxI L id) = has L id := by
    unfold idxI
    cases has L id <;> simp
  have hix := fun n => index_any (id := id) (g := w.heap.size) ((w.alloc (.cells #[.int .i64 id] 3)).drewN n) (h1.drewN n) hc
  have HX := Lib.hid hix
  clear hix hc
  go_enter Try.func44, Try.ntmps44
  go_wp2_with (first | (go_at_call 48; refine (there_any h1).mono ?_; rintro e w' ⟨rfl, n, rfl⟩) | (go_at_call 50; refine (HX.out _).mono ?_; rintro e w' ⟨rfl, hb⟩))
  go_ret2
  exact ⟨rfl, (hb0.trans (⟨rfl, rfl, rfl, Nat.le_refl _, fun _ _ => rfl⟩ : Below w.heap.size (w.alloc (.cells #[.int .i64 id] 3)) ((w.alloc (.cells #[.int .i64 id] 3)).drewN n))).trans (hb.mono (B' := w.heap.size) (by simp))⟩
end Go.Proofs.Ytndhhpiklaffoaa.Clock
