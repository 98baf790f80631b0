/-
  Write of a command that isn't one of fields.
-/
import Derived.Test.YtmmgebiojpnhcaaDoorCmdK
namespace Go.Proofs.YtmmgebiojpnhcaaDoor.Cmd
open Go.RowKit Base Go.Proofs.YtmmgebiojpnhcaaDoor.Ord
set_option linter.unusedVariables false
set_option linter.unusedSimpArgs false

theorem new1_own (w : World) (a : Int) : OwnBytes w.heap.size (w.alloc (.cells #[.int .u8 a] 5)) (.slice (some ⟨w.heap.size, 0, none⟩) 1 1) [a] :=
  ⟨rfl, .inr ⟨w.heap.size, 1, #[.int .u8 a], rfl, Nat.le_refl _, heap_alloc_new w _, Nat.le_refl _, by simp [maxLen], rfl, rfl⟩⟩
def plainK (k : Int) : Bool := k == 111 || k == 242 || k == 246 || k == 110
/-- The error of a command that isn't one of fields, and its bytes. -/
def oneE (C : Cm) (n : Int) : Int := if hasK C.kind = true then wErr C.ords n else if plainK C.kind = true then 0 else 30
def oneB (C : Cm) (n : Int) : List Int := if hasK C.kind = true then [C.kind, C.wcc] ++ wBytes C.ords n else [C.kind]
def WrK (w : World) (E : Int) (B : List Int) (e : Ending) (w' : World) : Prop := ∃ u, e = .returned (.tuple #[u, .int .i64 E]) ∧ (E = 0 → OwnBytes w.heap.size w' u B) ∧ (E ≠ 0 → u = .slice none 0 0) ∧ Below w.heap.size w w'
/-- Orders that Write may be asked of. -/
def OsOk4 (L : List Or) (n : Int) : Prop := L.length ≤ 1000000 ∧ (∀ o ∈ L, o.Ok4) ∧ (wBytes L n).length ≤ 5000000
set_option maxRecDepth 100000 in
set_option maxHeartbeats 4000000 in
theorem write_one {w : World} {C : Cm} {u : Value} (n : Int) (h : CmR w C u) (hk : C.kind ≠ 243) (ho : OsOk4 C.ords n) : Calls Tryd.prog 19 #[u, .int .i64 n] w (WrK w (oneE C n) (oneB C n)) := by
  obtain ⟨vo, vf, rfl, hp, hd⟩ := h
  obtain ⟨k, c, os, e, fs⟩ := C
  simp only at hp hd hk ho
  obtain ⟨fa, fc, rfl, _⟩ := hd
  have x1 := below_alloc w (.cells #[.int .u8 k, .int .u8 c, vo, .int .i64 e, .slice fa fs.length fc] 28)
  have y1 := heap_alloc_new w (.cells #[.int .u8 k, .int .u8 c, vo, .int .i64 e, .slice fa fs.length fc] 28)
  have HWR := Lib.hid (owrites_any n (hp.below x1) ho.2.1 ho.1 ho.2.2)
  obtain ⟨W1, hW1⟩ : ∃ W1, W1 = w.alloc (.cells #[.int .u8 k, .int .u8 c, vo, .int .i64 e, .slice fa fs.length fc] 28) := ⟨_, rfl⟩
  obtain ⟨s, hs⟩ : ∃ s, s = w.heap.size := ⟨_, rfl⟩
  rw [← hW1] at x1 y1 HWR
  rw [← hs] at y1
  have HW1 := Lib.hid hW1.symm
  have HS := Lib.hid hs.symm
  have HO := Lib.hid x1
  have HY := Lib.hid y1
  have HLB : Hid ((wBytes os n).length ≤ 5000000) := Lib.hid ho.2.2
  clear x1 y1 hW1 hs hp ho
  obtain ⟨q0, q1, q2, q3, q4, _⟩ := cells5 HY.out
  by_cases hh : hasK k = true
  · have HE : Hid (oneE ⟨k, c, os, e, fs⟩ n = wErr os n) := Lib.hid (if_pos hh)
    have HB : Hid (oneB ⟨k, c, os, e, fs⟩ n = [k, c] ++ wBytes os n) := Lib.hid (if_pos hh)
    have hk3 : k = 241 ∨ k = 245 ∨ k = 126 := by simp [hasK] at hh; omega
    obtain ⟨E, hE⟩ : ∃ E, E = wErr os n := ⟨_, rfl⟩
    have hE2 : E = 0 ∨ (E == 0) = false := by simp; omega
    unfold WriteK at HWR
    rw [← hE] at HE HWR
    clear hh hE hk
    rcases hk3 with rfl | rfl | rfl
    all_goals
      go_enter Tryd.func19, Tryd.ntmps19
      go_upto_region 1 with fail
      rw [HW1.out, HS.out]
      go_wp2_with fail
      refine HWR.out.mono ?_
      rintro e W2 ⟨u, rfl, hu0, hu1, b2⟩
      have HO2 := Lib.hid (HO.out.trans (b2.mono HO.out.size))
      have HY2 := Lib.hid ((b2.block _ (lt_of_block HY.out)).trans HY.out)
      clear b2 q0 q1 q2 q3 q4
      obtain ⟨q0, q1, q2, q3, q4, _⟩ := cells5 HY2.out
      rcases hE2 with rfl | hE2
      · have HU := Lib.hid (hu0 rfl)
        obtain ⟨ua, uc, rfl⟩ := (hu0 rfl).slice
        obtain ⟨m, hm⟩ : ∃ m, m = (wBytes os n).length := ⟨_, rfl⟩
        rw [← hm] at HU ⊢
        have HR : Hid (RowOf .u8 W2 (.slice ua m uc) (wBytes os n)) := Lib.hid HU.out.row
        have HUC : Hid (∀ x y, (Value.slice ua m uc) = .slice none x y → y = 0) := Lib.hid (fun x y he => by
          obtain ⟨_, _, _, h3, _, h5⟩ := HU.out.cut
          injection h3 with h6 _ h7
          injection he with h8 _ h9
          subst h7
          rw [← h9]
          exact h5 (by rw [← h6]; exact h8))
        clear hu0 hu1 hm
        go_wp2_with (at_builtin; go_loud (refine append_row rfl _ _ rfl (new2_own W2 _ c) (HR.out.below (below_alloc W2 _)) HUC.out rfl rfl (by have := HLB.out; simp; omega) (by rw [World.size_alloc]; omega) (w0 := W2) (below_alloc W2 _) ?_); intro v3 W3 hown hold _ _; have HOWN := Lib.hid hown; have HOLD := Lib.hid hold; clear hown hold)
        refine bodyPost_ret (v := .tuple #[v3, .int .i64 0]) (by simp [results, Tryd.results19, go_sem]) rfl ?_
        rw [HE.out, HB.out]
        exact ⟨_, rfl, fun _ => HOWN.out.lower HO2.out.size, fun h => absurd rfl h, HO2.out.trans (HOLD.out.mono HO2.out.size)⟩
      · have hne : E ≠ 0 := by simpa using hE2
        obtain rfl := hu1 hne
        have HNE := Lib.hid hne
        clear hu0 hu1 hne
        go_wp2_with fail
        refine bodyPost_ret (v := .tuple #[.slice none 0 0, .int .i64 E]) (by simp [results, Tryd.results19, go_sem]) rfl ?_
        rw [HE.out]
        exact ⟨_, rfl, fun h => absurd h HNE.out, fun _ => rfl, HO2.out⟩
  · have HH := Lib.hid hh
    by_cases hp : plainK k = true
    · have HE : Hid (oneE ⟨k, c, os, e, fs⟩ n = 0) := Lib.hid ((if_neg hh).trans (if_pos hp))
      have HB : Hid (oneB ⟨k, c, os, e, fs⟩ n = [k]) := Lib.hid (if_neg hh)
      have hk4 : k = 111 ∨ k = 242 ∨ k = 246 ∨ k = 110 := by simp [plainK] at hp; omega
      clear hh hp hk
      rcases hk4 with rfl | rfl | rfl | rfl
      all_goals
        go_enter Tryd.func19, Tryd.ntmps19
        go_upto_region 1 with fail
        rw [HW1.out, HS.out]
        go_wp2_with fail
        refine bodyPost_ret (v := .tuple #[.slice (some ⟨W1.heap.size, 0, none⟩) 1 1, .int .i64 0]) (by simp [results, Tryd.results19, go_sem]) rfl ?_
        rw [HE.out, HB.out]
        exact ⟨_, rfl, fun _ => (new1_own W1 _).lower HO.out.size, fun h => absurd rfl h, HO.out.trans ((below_alloc W1 _).mono HO.out.size)⟩
    · have HE : Hid (oneE ⟨k, c, os, e, fs⟩ n = 30) := Lib.hid ((if_neg hh).trans (if_neg hp))
      have ts : (k == 241) = false ∧ (k == 245) = false ∧ (k == 126) = false ∧ (k == 111) = false ∧ (k == 242) = false ∧ (k == 246) = false ∧ (k == 110) = false ∧ (k == 243) = false := by
        simp [hasK] at hh
        simp [plainK] at hp
        simp
        omega
      obtain ⟨t1, t2, t3, t4, t5, t6, t7, t8⟩ := ts
      clear hh hp hk
      go_enter Tryd.func19, Tryd.ntmps19
      go_upto_region 1 with fail
      rw [HW1.out, HS.out]
      go_wp2_with fail
      refine bodyPost_ret (v := .tuple #[.slice none 0 0, .int .i64 30]) (by simp [results, Tryd.results19, go_sem]) rfl ?_
      rw [HE.out]
      exact ⟨_, rfl, fun h => absurd h (by decide), fun _ => rfl, HO.out⟩
end Go.Proofs.YtmmgebiojpnhcaaDoor.Cmd
