/-
  The contract of the statements' 'plain'.
-/
import Derived.Test.YtgjdfhfaikdaaaaBackPlain
import Derived.Test.YtgjdfhfaikdaaaaDecB
import Derived.Laws.ResultCell
namespace Go.Proofs.Ytgjdfhfaikdaaaa.Iac
open Go.RowKit Base
set_option linter.unusedVariables false

/-- An event with just what belongs to it; may it be? -/
def plainP (q : Ev) (u : Value) : EvP × Bool :=
  if q.kind = 1 then ((⟨1, 0, 0, q.bytes⟩, u), true)
  else if q.kind = 2 then ((⟨2, 0, 0, []⟩, .slice none 0 0), true)
  else if q.kind = 3 then ((⟨3, q.code, 0, []⟩, .slice none 0 0), decide (q.code < 250) && q.code != 239)
  else if q.kind = 4 then ((⟨4, q.code, q.option, []⟩, .slice none 0 0), decide (251 ≤ q.code) && decide (q.code ≤ 254))
  else if q.kind = 5 then ((⟨5, 0, q.option, q.bytes⟩, u), true)
  else ((⟨0, 0, 0, []⟩, .slice none 0 0), false)
theorem plainP_ok (q : Ev) (u : Value) (h : (plainP q u).2 = true) (hl : q.bytes.length ≤ 256) : Plain (plainP q u).1.1 := by
  unfold plainP at h ⊢
  split
  · exact .data _
  · split
    · exact .fin
    · split
      · next h1 h2 h3 =>
        rw [if_neg h1, if_neg h2, if_pos h3] at h
        simp at h
        exact .cmd _ h.1 h.2
      · split
        · next h1 h2 h3 h4 =>
          rw [if_neg h1, if_neg h2, if_neg h3, if_pos h4] at h
          simp at h
          exact .verb _ _ h.1 h.2
        · split
          · exact .sub _ _ hl
          · next h1 h2 h3 h4 h5 =>
            rw [if_neg h1, if_neg h2, if_neg h3, if_neg h4, if_neg h5] at h
            simp at h
theorem plainP_row {w : World} (q : Ev) (u : Value) (h : RowOf .u8 w u q.bytes) : RowOf .u8 w (plainP q u).1.2 (plainP q u).1.1.bytes := by
  unfold plainP
  split
  · exact h
  · split
    · exact RowOf.nil _ _
    · split
      · exact RowOf.nil _ _
      · split
        · exact RowOf.nil _ _
        · split
          · exact h
          · exact RowOf.nil _ _
theorem results_ev_tmp {fn : Func} {p u : Tmp} (h : fn.results = #[.cell p 38, .tmp u]) (tmps : Array Value) (w : World) (g : Nat) (x0 x1 x2 x3 y : Value)
    (hp : tmps.getD p undef = .pointer (some ⟨g, 0, none⟩)) (hg : w.heap[g]? = some (.cells #[x0, x1, x2, x3] 38 (0, 0))) (hu : tmps.getD u undef = y) :
    (results fn tmps).run Try.prog w = .ok (.tuple #[.agg #[x0, x1, x2, x3], y]) w := by
  rw [results_cell_tmp h, hp]
  simp [asAddr, run_loadVar_row w g 38 38 #[x0, x1, x2, x3] (0, 0) _ hg Try.underlying38 rfl size_ev, hu, Result.andThen]
def PlainEnd (q : Ev) (u : Value) (w : World) (e : Ending) (w' : World) : Prop :=
  e = .returned (.tuple #[.agg #[.int .i64 (plainP q u).1.1.kind, .int .u8 (plainP q u).1.1.code, .int .u8 (plainP q u).1.1.option, (plainP q u).1.2], .bool (plainP q u).2]) ∧ Below w.heap.size w w'
set_option maxRecDepth 100000 in
set_option maxHeartbeats 2000000 in
theorem plain_any (q : Ev) (ua : Option Addr) (ul uc : Nat) (w : World) :
    Calls Try.prog 30 #[.agg #[.int .i64 q.kind, .int .u8 q.code, .int .u8 q.option, .slice ua ul uc]] w (PlainEnd q (.slice ua ul uc) w) := by
  have hz := (zero_of_info (v := .agg #[.int .i64 0, .int .u8 0, .int .u8 0, .slice none 0 0]) (n := 4) (P := Try.prog) (t := 38) (by kernel_rfl)).1
  obtain ⟨kd, cd, op, by'⟩ := q
  have fin : ∀ (x0 x1 x2 x3 : Value), ((w.alloc (.cells #[.int .i64 kd, .int .u8 cd, .int .u8 op, .slice ua ul uc] 38)).alloc (.cells #[x0, x1, x2, x3] 38)).heap[w.heap.size + 1]? = some (.cells #[x0, x1, x2, x3] 38 (0, 0)) ∧ Below w.heap.size w ((w.alloc (.cells #[.int .i64 kd, .int .u8 cd, .int .u8 op, .slice ua ul uc] 38)).alloc (.cells #[x0, x1, x2, x3] 38)) := fun x0 x1 x2 x3 => by
    have h1 := heap_alloc_new (w.alloc (.cells #[.int .i64 kd, .int .u8 cd, .int .u8 op, .slice ua ul uc] 38)) (.cells #[x0, x1, x2, x3] 38)
    rw [World.size_alloc] at h1
    exact ⟨h1, (below_alloc w _).trans ((below_alloc _ _).mono (by simp))⟩
  have FIN := Lib.hid fin
  have find : ∀ (x0 x1 x2 x3 : Value), (((w.alloc (.cells #[.int .i64 kd, .int .u8 cd, .int .u8 op, .slice ua ul uc] 38)).alloc (.cells #[x0, x1, x2, x3] 38)).drew).heap[w.heap.size + 1]? = some (.cells #[x0, x1, x2, x3] 38 (0, 0)) ∧ Below w.heap.size w (((w.alloc (.cells #[.int .i64 kd, .int .u8 cd, .int .u8 op, .slice ua ul uc] 38)).alloc (.cells #[x0, x1, x2, x3] 38)).drew) := fun x0 x1 x2 x3 => ⟨(fin x0 x1 x2 x3).1, (fin x0 x1 x2 x3).2.drew⟩
  have FIND := Lib.hid find
  clear fin find
  by_cases k1 : kd = 1
  · subst k1
    go_enter Try.func30, Try.ntmps30
    go_wp2
    refine bodyPost_ret (results_ev_tmp rfl _ _ (w.heap.size + 1) _ _ _ _ _ rfl (FIN.out _ _ _ _).1 rfl) rfl ?_
    exact ⟨rfl, (FIN.out _ _ _ _).2⟩
  by_cases k2 : kd = 2
  · subst k2
    go_enter Try.func30, Try.ntmps30
    go_wp2
    refine bodyPost_ret (results_ev_tmp rfl _ _ (w.heap.size + 1) _ _ _ _ _ rfl (FIN.out _ _ _ _).1 rfl) rfl ?_
    exact ⟨rfl, (FIN.out _ _ _ _).2⟩
  by_cases k5 : kd = 5
  · subst k5
    go_enter Try.func30, Try.ntmps30
    go_wp2
    refine bodyPost_ret (results_ev_tmp rfl _ _ (w.heap.size + 1) _ _ _ _ _ rfl (FIN.out _ _ _ _).1 rfl) rfl ?_
    exact ⟨rfl, (FIN.out _ _ _ _).2⟩
  have t1 : (kd == 1) = false := by simpa using k1
  have t2 : (kd == 2) = false := by simpa using k2
  have t5 : (kd == 5) = false := by simpa using k5
  by_cases k3 : kd = 3
  · subst k3
    by_cases c1 : cd < 250
    · by_cases c2 : cd = 239
      · subst c2
        have hp : plainP ⟨3, 239, op, by'⟩ (.slice ua ul uc) = ((⟨3, 239, 0, []⟩, .slice none 0 0), false) := by
          unfold plainP
          rw [if_neg (by simp), if_neg (by simp), if_pos rfl]
          simp
        have HP := Lib.hid hp
        clear hp k1 k2 k5 t1 t2 t5
        go_enter Try.func30, Try.ntmps30
        go_wp2
        go_region
        go_wp2
        refine bodyPost_ret (results_ev_tmp rfl _ _ (w.heap.size + 1) _ _ _ _ _ rfl (FIND.out _ _ _ _).1 rfl) rfl ?_
        unfold PlainEnd
        rw [HP.out]
        exact ⟨rfl, (FIND.out _ _ _ _).2⟩
      · have c3 : (cd != 239) = true := by simpa using c2
        have hp : plainP ⟨3, cd, op, by'⟩ (.slice ua ul uc) = ((⟨3, cd, 0, []⟩, .slice none 0 0), true) := by
          unfold plainP
          rw [if_neg (by simp), if_neg (by simp), if_pos rfl]
          simp [c1, c2]
        have HP := Lib.hid hp
        clear hp k1 k2 k5 t1 t2 t5
        go_enter Try.func30, Try.ntmps30
        go_wp2
        go_region
        go_wp2
        refine bodyPost_ret (results_ev_tmp rfl _ _ (w.heap.size + 1) _ _ _ _ _ rfl (FIND.out _ _ _ _).1 rfl) rfl ?_
        unfold PlainEnd
        rw [HP.out]
        exact ⟨rfl, (FIND.out _ _ _ _).2⟩
    · have c4 : decide (cd < 250) = false := by simp; omega
      have hp : plainP ⟨3, cd, op, by'⟩ (.slice ua ul uc) = ((⟨3, cd, 0, []⟩, .slice none 0 0), false) := by
        unfold plainP
        rw [if_neg (by simp), if_neg (by simp), if_pos rfl]
        simp [c1]
      have HP := Lib.hid hp
      clear hp k1 k2 k5 t1 t2 t5
      go_enter Try.func30, Try.ntmps30
      go_wp2
      go_region
      go_wp2
      refine bodyPost_ret (results_ev_tmp rfl _ _ (w.heap.size + 1) _ _ _ _ _ rfl (FIND.out _ _ _ _).1 rfl) rfl ?_
      unfold PlainEnd
      rw [HP.out]
      exact ⟨rfl, (FIND.out _ _ _ _).2⟩
  by_cases k4 : kd = 4
  · subst k4
    by_cases c1 : 251 ≤ cd
    · by_cases c2 : cd ≤ 254
      · skip
        have hp : plainP ⟨4, cd, op, by'⟩ (.slice ua ul uc) = ((⟨4, cd, op, []⟩, .slice none 0 0), true) := by
          unfold plainP
          rw [if_neg (by simp), if_neg (by simp), if_neg (by simp), if_pos rfl]
          simp [c1, c2]
        have HP := Lib.hid hp
        clear hp k1 k2 k5 t1 t2 t5
        go_enter Try.func30, Try.ntmps30
        go_wp2
        go_region
        go_wp2
        refine bodyPost_ret (results_ev_tmp rfl _ _ (w.heap.size + 1) _ _ _ _ _ rfl (FIND.out _ _ _ _).1 rfl) rfl ?_
        unfold PlainEnd
        rw [HP.out]
        exact ⟨rfl, (FIND.out _ _ _ _).2⟩
      · have c3 : decide (cd ≤ 254) = false := by simp; omega
        have hp : plainP ⟨4, cd, op, by'⟩ (.slice ua ul uc) = ((⟨4, cd, op, []⟩, .slice none 0 0), false) := by
          unfold plainP
          rw [if_neg (by simp), if_neg (by simp), if_neg (by simp), if_pos rfl]
          simp [c1, c2]
        have HP := Lib.hid hp
        clear hp k1 k2 k5 t1 t2 t5
        go_enter Try.func30, Try.ntmps30
        go_wp2
        go_region
        go_wp2
        refine bodyPost_ret (results_ev_tmp rfl _ _ (w.heap.size + 1) _ _ _ _ _ rfl (FIND.out _ _ _ _).1 rfl) rfl ?_
        unfold PlainEnd
        rw [HP.out]
        exact ⟨rfl, (FIND.out _ _ _ _).2⟩
    · have c4 : decide (251 ≤ cd) = false := by simp; omega
      have hp : plainP ⟨4, cd, op, by'⟩ (.slice ua ul uc) = ((⟨4, cd, op, []⟩, .slice none 0 0), false) := by
        unfold plainP
        rw [if_neg (by simp), if_neg (by simp), if_neg (by simp), if_pos rfl]
        simp [c1]
      have HP := Lib.hid hp
      clear hp k1 k2 k5 t1 t2 t5
      go_enter Try.func30, Try.ntmps30
      go_wp2
      go_region
      go_wp2
      refine bodyPost_ret (results_ev_tmp rfl _ _ (w.heap.size + 1) _ _ _ _ _ rfl (FIND.out _ _ _ _).1 rfl) rfl ?_
      unfold PlainEnd
      rw [HP.out]
      exact ⟨rfl, (FIND.out _ _ _ _).2⟩
  have t3 : (kd == 3) = false := by simpa using k3
  have t4 : (kd == 4) = false := by simpa using k4
  have hp : plainP ⟨kd, cd, op, by'⟩ (.slice ua ul uc) = ((⟨0, 0, 0, []⟩, .slice none 0 0), false) := by
    unfold plainP
    rw [if_neg k1, if_neg k2, if_neg k3, if_neg k4, if_neg k5]
  have HP := Lib.hid hp
  clear k1 k2 k3 k4 k5 hp
  go_enter Try.func30, Try.ntmps30
  go_wp2
  refine bodyPost_ret (results_ev_tmp rfl _ _ (w.heap.size + 1) _ _ _ _ _ rfl (FIN.out _ _ _ _).1 rfl) rfl ?_
  unfold PlainEnd
  rw [HP.out]
  exact ⟨rfl, (FIN.out _ _ _ _).2⟩
end Go.Proofs.Ytgjdfhfaikdaaaa.Iac
