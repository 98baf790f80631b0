/-
  The contract of Tell.
-/
import Derived.Test.YtimidoaafllnkaaIacA
import Derived.Laws.AppendOwnNone
namespace Go.Proofs.Ytimidoaafllnkaa.Iac
open Go.RowKit Base
set_option linter.unusedVariables false

theorem two_cl (w : World) (a b : Int) : ∀ (j : Nat) (u : Value), ([.int .u8 a, .int .u8 b] : List Value)[j]? = some u → (w.alloc (.cells #[.int .u8 a, .int .u8 b] 5)).cell? ((⟨w.heap.size, 0, none⟩ : Addr).add j) = some u := by
  intro j u hu
  match j, hu with
  | 0, hu => simp at hu; subst hu; simp [go_sem, Addr.add]
  | 1, hu => simp at hu; subst hu; simp [go_sem, Addr.add]
theorem row_one (W : World) (x : Int) (t : TypeId) : RowOf .u8 (W.alloc (.cells #[.int .u8 x] t)) (.slice (some ⟨W.heap.size, 0, none⟩) 1 1) [x] := by
  refine ⟨_, 1, rfl, fun _ => ⟨_, 0, rfl, fun i hi => ?_⟩⟩
  obtain rfl : i = 0 := by simpa using hi
  simp [go_sem]
/-- A subnegotiation's bytes. -/
def tellL (o : Int) (L : List Int) : List Int := [255, 250] ++ escL [o] ++ escL L ++ [255, 240]
set_option maxRecDepth 100000 in
set_option maxHeartbeats 4000000 in
theorem tell_any (o : Int) (v : Value) (L : List Int) (w : World) (h : RowOf .u8 w v L) (hl : L.length ≤ 100000) :
    Calls Try.prog 14 #[.int .u8 o, v] w fun e w' => ∃ p, e = .returned p ∧ OwnBytes w.heap.size w' p (tellL o L) ∧ Below w.heap.size w w' := by
  obtain ⟨i0, hi, hz0, hz1, hz2⟩ := info_parts info_byte
  have H := Lib.hid h
  clear h
  have q0 := new2_own w 255 250
  have hb0 : Below w.heap.size w ((w.alloc (.cells #[.int .u8 255, .int .u8 250] 5)).alloc (.cells #[.int .u8 o] 5)) := (below_alloc w _).trans ((below_alloc _ _).mono (by simp))
  have q1 := q0.below (below_alloc _ (.cells #[.int .u8 o] 5))
  have r1 := row_one (w.alloc (.cells #[.int .u8 255, .int .u8 250] 5)) o 5
  rw [World.size_alloc] at r1
  obtain ⟨W0, hW0⟩ : ∃ W, W = (w.alloc (.cells #[.int .u8 255, .int .u8 250] 5)).alloc (.cells #[.int .u8 o] 5) := ⟨_, rfl⟩
  rw [← hW0] at q1 hb0 r1
  have HW := Lib.hid hW0.symm
  have HQ1 := Lib.hid q1
  have HB0 := Lib.hid hb0
  have HR1 := Lib.hid r1
  clear q0 q1 hW0 hb0 r1
  go_enter Try.func14, Try.ntmps14
  go_wp2_with fail
  rw [HW.out]
  refine (escape_any _ [o] W0 HR1.out (by simp)).mono ?_
  rintro e w1 ⟨p1, rfl, R1, b1⟩
  have hle1 := escL_le [o]
  have hne : escL [o] ≠ [] := by unfold escL; simp; split <;> simp
  rcases R1.lit with ⟨_, h0⟩ | ⟨g1, c1, rfl, hc1⟩
  · exact absurd h0 hne
  · have hraw := HQ1.out.below b1
    have hsz1 := b1.size
    have hsz0 := HB0.out.size
    have HB1 := Lib.hid (HB0.out.trans (b1.mono HB0.out.size))
    have HQ2 := Lib.hid hraw
    have HC1 := Lib.hid hc1
    unfold OwnBytes at hraw
    have hlen1 : ((escL [o]).map (Value.int .u8)).length = (escL [o]).length * 1 := by rw [List.length_map]; omega
    have hle2 := escL_le L
    have hm12 : (escL [o]).length ≤ 2 := by simpa using hle1
    have hraw : w1.ownsRow w.heap.size 5 1 (.slice (some ⟨w.heap.size, 0, none⟩) 2 2) 2 [.int .u8 255, .int .u8 250] := hraw
    go_wp2_with (at_builtin; refine wpList_append_own _ rfl _ _ 24 rfl w.heap.size 5 i0 (.int .u8 0) 1 1 Try.underlying24 hi hz0 hz1 hz2 rfl (by decide) _ _ _ rfl hraw ⟨g1, 0, none⟩ (escL [o]).length c1 ((escL [o]).map (Value.int .u8)) rfl hlen1 HC1.out (bytes_one _) (by unfold maxLen; omega) (by omega) (by omega) ?_; intro v5 w5 hown5 hgrow5 _; clear hraw hlen1)
    obtain ⟨h5, hb5⟩ := HQ2.out.grown0 (X := escL [o]) hown5 hgrow5 HB1.out (by omega)
    have hs5 := hb5.size
    have H5 := Lib.hid h5
    have HB5 := Lib.hid hb5
    clear hown5 hgrow5 h5 hb5
    refine (escape_any v L w5 (H.out.below HB5.out) hl).mono ?_
    rintro e w6 ⟨p2, rfl, R2, b2⟩
    have hs6 := b2.size
    have hraw6 := H5.out.below b2
    have HQ6 := Lib.hid hraw6
    have HB6 := Lib.hid (HB5.out.trans (b2.mono hs5))
    unfold OwnBytes at hraw6
    obtain ⟨m6, hm6⟩ : ∃ m, m = ([255, 250] ++ escL [o]).length := ⟨_, rfl⟩
    have hm6' : m6 ≤ 4 := by rw [hm6, List.length_append]; simp; omega
    rw [← hm6] at hraw6
    have HM6 := Lib.hid hm6
    clear hm6
    rcases R2.lit with ⟨rfl, h0⟩ | ⟨g2, c2, rfl, hc2⟩
    · have htell : tellL o L = ([255, 250] ++ escL [o]) ++ [255, 240] := by unfold tellL; rw [h0]; simp
      have HTL := Lib.hid htell
      have HCL := Lib.hid (two_cl w6 255 240)
      clear htell h0 R2 b2
      go_wp2_with (first
        | (at_builtin; refine wpList_append_own_none rfl _ _ 24 rfl w.heap.size 5 i0 1 Try.underlying24 hi _ _ _ rfl hraw6 rfl ?_)
        | (at_builtin; refine wpList_append_own _ rfl _ _ 24 rfl w.heap.size 5 i0 (.int .u8 0) 1 1 Try.underlying24 hi hz0 hz1 hz2 rfl (by decide) _ _ _ rfl (hraw6.alloc _) ⟨w6.heap.size, 0, none⟩ 2 2 [.int .u8 255, .int .u8 240] rfl rfl HCL.out (by simp [Value.oneCell']) (by unfold maxLen; omega) (by omega) (by rw [World.size_alloc]; omega) ?_; intro v7 w7 hown7 hgrow7 _; clear hraw6))
      go_ret
      obtain ⟨h7, hb7⟩ := HQ6.out.grown (X := [255, 240]) (by rw [← HM6.out]; exact hown7) hgrow7 HB6.out (by omega)
      exact ⟨_, rfl, by rw [HTL.out]; exact h7, hb7⟩
    · have HC2 := Lib.hid hc2
      have hlen2 : ((escL L).map (Value.int .u8)).length = (escL L).length * 1 := by rw [List.length_map]; omega
      have hle3 : (escL L).length ≤ 200000 := by omega
      clear hc2 R2 b2
      go_wp2_with (first
        | (at_builtin; refine wpList_append_own _ rfl _ _ 24 rfl w.heap.size 5 i0 (.int .u8 0) 1 1 Try.underlying24 hi hz0 hz1 hz2 rfl (by decide) _ _ _ rfl hraw6 ⟨g2, 0, none⟩ (escL L).length c2 ((escL L).map (Value.int .u8)) rfl hlen2 HC2.out (bytes_one _) (by unfold maxLen; omega) (by omega) (by omega) ?_; intro v7 w7 hown7 hgrow7 _; obtain ⟨h7, hb7⟩ := HQ6.out.grown0 (X := escL L) (by rw [← HM6.out]; exact hown7) hgrow7 HB6.out (by omega); have hs7 : w.heap.size ≤ w7.heap.size := hb7.size; have H7 := Lib.hid h7; have HB7 := Lib.hid hb7; have HCL := Lib.hid (two_cl w7 255 240); have HRAW7 := Lib.hid hown7; clear hraw6 hown7 hgrow7 h7 hb7 hlen2)
        | (at_builtin; refine wpList_append_own _ rfl _ _ 24 rfl w.heap.size 5 i0 (.int .u8 0) 1 1 Try.underlying24 hi hz0 hz1 hz2 rfl (by decide) _ _ _ rfl (HRAW7.out.alloc _) ⟨w7.heap.size, 0, none⟩ 2 2 [.int .u8 255, .int .u8 240] rfl rfl HCL.out (by simp [Value.oneCell']) (by unfold maxLen; omega) (by omega) (by rw [World.size_alloc]; omega) ?_; intro v8 w8 hown8 hgrow8 _))
      go_ret
      obtain ⟨h8, hb8⟩ := H7.out.grown (X := [255, 240]) (by have := hown8; rw [List.length_append, List.map_append, ← HM6.out]; exact this) hgrow8 HB7.out hs7
      exact ⟨_, rfl, by unfold tellL; exact h8, hb8⟩
end Go.Proofs.Ytimidoaafllnkaa.Iac
