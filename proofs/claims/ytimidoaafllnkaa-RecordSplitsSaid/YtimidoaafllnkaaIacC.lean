/-
  Contracts of Say and written.
-/
import Derived.Test.YtimidoaafllnkaaIacB
namespace Go.Proofs.Ytimidoaafllnkaa.Iac
open Go.RowKit Base
set_option linter.unusedVariables false

theorem new3_own (w : World) (a b c : Int) : OwnBytes w.heap.size (w.alloc (.cells #[.int .u8 a, .int .u8 b, .int .u8 c] 5)) (.slice (some ⟨w.heap.size, 0, none⟩) 3 3) [a, b, c] :=
  ⟨rfl, .inr ⟨w.heap.size, 3, #[.int .u8 a, .int .u8 b, .int .u8 c], rfl, Nat.le_refl _, heap_alloc_new w _, by simp, by simp [maxLen], by simp, by simp⟩⟩
theorem say_own (c o : Int) (w : World) : Calls Try.prog 22 #[.int .u8 c, .int .u8 o] w fun e w' => ∃ p, e = .returned p ∧ OwnBytes w.heap.size w' p [255, c, o] ∧ Below w.heap.size w w' := by
  go_enter Try.func22, Try.ntmps22
  go_wp2
  go_ret
  exact ⟨_, rfl, new3_own w 255 c o, below_alloc w _⟩
/-- An event: its kind, its code, its option, its bytes. -/
structure Ev where
  kind : Int
  code : Int
  option : Int
  bytes : List Int
/-- The bytes of an event. -/
def writtenL (e : Ev) : List Int :=
  if e.kind = 1 then escL e.bytes
  else if e.kind = 2 then [255, 239]
  else if e.kind = 3 then [255, e.code]
  else if e.kind = 4 then [255, e.code, e.option]
  else if e.kind = 5 then tellL e.option e.bytes
  else if e.kind = 6 then tellL e.option e.bytes
  else []
set_option maxRecDepth 100000 in
set_option maxHeartbeats 4000000 in
theorem written_any (k c o : Int) (v : Value) (L : List Int) (w : World) (h : RowOf .u8 w v L) (hl : L.length ≤ 100000) :
    Calls Try.prog 65 #[.agg #[.int .i64 k, .int .u8 c, .int .u8 o, v]] w fun e w' => ∃ p, e = .returned p ∧ OwnBytes w.heap.size w' p (writtenL ⟨k, c, o, L⟩) ∧ Below w.heap.size w w' := by
  have hb := below_alloc w (.cells #[.int .i64 k, .int .u8 c, .int .u8 o, v] 26)
  have hr := h.below hb
  have hz := World.size_alloc w (.cells #[.int .i64 k, .int .u8 c, .int .u8 o, v] 26)
  obtain ⟨W, hW⟩ : ∃ W, W = w.alloc (.cells #[.int .i64 k, .int .u8 c, .int .u8 o, v] 26) := ⟨_, rfl⟩
  rw [← hW] at hb hr hz
  have e0 : W.cell? ⟨w.heap.size, 0, none⟩ = some (.int .i64 k) := by rw [hW]; simp [go_sem]
  have e1 : W.cell? ⟨w.heap.size, 1, none⟩ = some (.int .u8 c) := by rw [hW]; simp [go_sem]
  have e2 : W.cell? ⟨w.heap.size, 2, none⟩ = some (.int .u8 o) := by rw [hW]; simp [go_sem]
  have e3 : W.cell? ⟨w.heap.size, 3, none⟩ = some v := by rw [hW]; simp [go_sem]
  have n2 : ∀ a b : Int, OwnBytes w.heap.size (W.alloc (.cells #[.int .u8 a, .int .u8 b] 5)) (.slice (some ⟨w.heap.size + 1, 0, none⟩) 2 2) [a, b] ∧ Below w.heap.size w (W.alloc (.cells #[.int .u8 a, .int .u8 b] 5)) := fun a b => by
    have h2 := new2_own W a b
    rw [hz] at h2
    exact ⟨h2.lower (by omega), hb.trans ((below_alloc W _).mono hb.size)⟩
  have N2 := Lib.hid n2
  clear n2
  have HW := Lib.hid hW.symm
  have HB := Lib.hid hb
  have HR := Lib.hid hr
  have HZ := Lib.hid hz
  clear hW hb hr hz h
  by_cases k1 : k = 1
  · subst k1
    rw [show writtenL ⟨1, c, o, L⟩ = escL L from rfl]
    go_enter Try.func65, Try.ntmps65
    go_wp2_with fail
    rw [HW.out]
    refine (escape_any v L W HR.out hl).mono ?_
    rintro e w1 ⟨p, rfl, R1, b1⟩
    go_wp2_with fail
    go_ret
    exact ⟨_, rfl, R1.lower (by rw [HZ.out]; omega), HB.out.trans (b1.mono HB.out.size)⟩
  · by_cases k2 : k = 2
    · subst k2
      rw [show writtenL ⟨2, c, o, L⟩ = [255, 239] from rfl]
      go_enter Try.func65, Try.ntmps65
      go_wp2_with fail
      rw [HW.out]
      go_ret
      exact ⟨_, rfl, (N2.out 255 239).1, (N2.out 255 239).2⟩
    · by_cases k3 : k = 3
      · subst k3
        rw [show writtenL ⟨3, c, o, L⟩ = [255, c] from rfl]
        go_enter Try.func65, Try.ntmps65
        go_wp2_with fail
        rw [HW.out]
        go_ret
        exact ⟨_, rfl, (N2.out 255 c).1, (N2.out 255 c).2⟩
      · by_cases k4 : k = 4
        · subst k4
          rw [show writtenL ⟨4, c, o, L⟩ = [255, c, o] from rfl]
          go_enter Try.func65, Try.ntmps65
          go_wp2_with fail
          rw [HW.out]
          refine (say_own c o W).mono ?_
          rintro e w1 ⟨p, rfl, R1, b1⟩
          go_wp2_with fail
          go_ret
          exact ⟨_, rfl, R1.lower (by rw [HZ.out]; omega), HB.out.trans (b1.mono HB.out.size)⟩
        · by_cases k56 : k = 5 ∨ k = 6
          · have hw : writtenL ⟨k, c, o, L⟩ = tellL o L := by rcases k56 with rfl | rfl <;> rfl
            rw [hw]
            clear hw k1 k2 k3 k4
            rcases k56 with rfl | rfl
            all_goals
              go_enter Try.func65, Try.ntmps65
              go_wp2_with fail
              rw [HW.out]
              refine (tell_any o v L W HR.out hl).mono ?_
              rintro e w1 ⟨p, rfl, R1, b1⟩
              go_wp2_with fail
              go_ret
              exact ⟨_, rfl, R1.lower (by rw [HZ.out]; omega), HB.out.trans (b1.mono HB.out.size)⟩
          · have hw : writtenL ⟨k, c, o, L⟩ = [] := by
              unfold writtenL
              rw [if_neg k1, if_neg k2, if_neg k3, if_neg k4, if_neg (fun e => k56 (.inl e)), if_neg (fun e => k56 (.inr e))]
            rw [hw]
            have t1 : (k == 1) = false := by simpa using k1
            have t2 : (k == 2) = false := by simpa using k2
            have t3 : (k == 3) = false := by simpa using k3
            have t4 : (k == 4) = false := by simpa using k4
            have t5 : (k == 5) = false := by simp; exact fun e => k56 (.inl e)
            have t6 : (k == 6) = false := by simp; exact fun e => k56 (.inr e)
            clear hw k1 k2 k3 k4 k56
            go_enter Try.func65, Try.ntmps65
            go_wp2_with fail
            rw [HW.out]
            go_ret
            exact ⟨_, rfl, OwnBytes.nil _ _, HB.out⟩
end Go.Proofs.Ytimidoaafllnkaa.Iac
