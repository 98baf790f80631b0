/-
  Same, of all commands.
-/
import Derived.Test.YtmmgebiojpnhcaaDoorCmdR
namespace Go.Proofs.YtmmgebiojpnhcaaDoor.Cmd
open Go.RowKit Base Go.Proofs.YtmmgebiojpnhcaaDoor.Ord
set_option linter.unusedVariables false
set_option linter.unusedSimpArgs false

structure CmOk (C : Cm) : Prop where
  os : OsOk C.ords
  fs : ∀ f ∈ C.fields, OsOk f.ords
  fm : C.fields.length ≤ 1000000
theorem alikeK_eq (a b : Cm) (h : alikeK a b = false ∨ a.fields = []) : alikeK a b = decide (a = b) := by
  cases a; cases b
  unfold alikeK at h ⊢
  rcases h with h | h
  · rw [h]
    symm
    apply decide_eq_false
    intro e
    injection e with e1 e2 e3 e4 e5
    subst e1 e2 e3 e4 e5
    simp at h
  · simp only at h
    subst h
    rw [Bool.eq_iff_iff]
    simp only [Bool.and_eq_true, decide_eq_true_eq, Cm.mk.injEq, List.length_nil]
    constructor
    · rintro ⟨⟨⟨⟨h1, h2⟩, h3⟩, h4⟩, h5⟩; exact ⟨h1, h2, h4, h3, (List.eq_nil_of_length_eq_zero h5.symm).symm⟩
    · rintro ⟨h1, h2, h3, h4, h5⟩; exact ⟨⟨⟨⟨h1, h2⟩, h4⟩, h3⟩, by rw [← h5]; rfl⟩
theorem alike_fields (a b : Cm) (h : alikeK a b = true) : decide (a = b) = decide (a.fields = b.fields) := by
  cases a; cases b
  unfold alikeK at h
  simp only [Bool.and_eq_true, decide_eq_true_eq] at h
  obtain ⟨⟨⟨⟨rfl, rfl⟩, rfl⟩, rfl⟩, _⟩ := h
  rw [Bool.eq_iff_iff]
  simp
def waitN (q : Nat) (W : World) : Nat := match W.cell? ⟨q, 0, none⟩ with
  | some (.slice _ n _) => n
  | _ => 0
theorem cells2 {W : World} {g : Nat} {x0 x1 : Value} {t : TypeId} (h : W.heap[g]? = some (.cells #[x0, x1] t (0, 0))) : W.cell? ⟨g, 0, none⟩ = some x0 ∧ W.cell? ⟨g, 1, none⟩ = some x1 := by
  simp [World.cell?, h]
theorem ls_slice : Tryd.prog.underlying 68 = some (.slice (Tryd.prog.elem 68)) := by kernel_rfl
theorem ls_size (w : World) : (sizeOf (Tryd.prog.elem 68)).run Tryd.prog w = .ok 2 w := by kernel_rfl
theorem slice0 (g c : Nat) (hc : 1 ≤ c) (W : World) : (Instr.slice 68 (.slice (some ⟨g, 0, none⟩) 1 c) none (some (.int .i64 0)) none).run Tryd.prog W = .ok (.slice (some ⟨g, 0, none⟩) 0 c) W := by
  rw [run_slice_h W 68 (some ⟨g, 0, none⟩) 1 c ls_slice .i64 0 (by omega) (by omega), ls_size]
  have hc0 : ¬ c = 0 := by omega
  simp [Result.andThen, sliced, hc0, Addr.add]
set_option maxRecDepth 100000 in
set_option maxHeartbeats 8000000 in
theorem csame_any {w : World} {a b : Cm} {u v : Value} (h : CmR w a u) (k : CmR w b v) (ha : CmOk a) (hb : CmOk b) :
    Calls Tryd.prog 18 #[u, v] w fun e w' => e = .returned (.bool (decide (a = b))) ∧ Below w.heap.size w w' := by
  by_cases hn : alikeK a b = false ∨ a.fields = []
  · rw [← alikeK_eq a b hn]
    exact same_quiet h k ha.os hb.os hn
  have hal : alikeK a b = true := by cases e : alikeK a b with
    | true => rfl
    | false => exact absurd (.inl e) hn
  have hfe : a.fields ≠ [] := fun e => hn (.inr e)
  have hlen : a.fields.length = b.fields.length := by simp [alikeK] at hal; omega
  have hmf : ∀ (fn : Fn) (first cap : Array Value) (w : World), (Instr.makeFunc fn first cap).run Tryd.prog w = .ok (.func fn first cap) w := fun _ _ _ _ => rfl
  have hmm : ∀ (w : World), (Instr.makeMap 69 none).run Tryd.prog w = .ok (.map (some w.heap.size)) (w.alloc (.map #[] 0)) := fun w => by simp [Instr.makeMap, go_sem]
  have hst : ∀ (x y : Addr) (w : World) (a : Addr) (m : Mode), (store a (.func (.func 30) #[] #[.pointer (some x), .pointer (some y)]) m).run Tryd.prog w = stored Tryd.prog w a (.func (.func 30) #[] #[.pointer (some x), .pointer (some y)]) m := fun x y w a m => run_store Tryd.prog w a _ m rfl
  have H := Lib.hid h
  have K := Lib.hid k
  obtain ⟨vo, vf, rfl, hp, hd⟩ := h
  obtain ⟨vo2, vf2, rfl, hp2, hd2⟩ := k
  obtain ⟨B, hB⟩ : ∃ B, B = decide (a.fields = b.fields) := ⟨_, rfl⟩
  rw [alike_fields a b hal, ← hB]
  have HB := Lib.hid hB
  have HD := Lib.hid hd
  have HD2 := Lib.hid hd2
  have HEQ : Hid (∀ (f : Nat) (p q : Addr) W, Below w.heap.size w W → W.heap[f]? = some (.cells #[.func (.func 30) #[] #[.pointer (some p), .pointer (some q)]] 44 (0, 0)) → Calls Tryd.prog 33 #[vf, vf2, .func (.func 32) #[] #[.pointer (some ⟨f, 0, none⟩)]] W fun e w' => e = .returned (.bool B) ∧ Below W.heap.size W w') := Lib.hid (fun f p q W hW hf => by rw [hB]; exact eqFields_any (HD.out.below hW) (HD2.out.below hW) ha.fs hb.fs ha.fm hlen hf)
  have HOSA := Lib.hid ha.os
  have HOSB := Lib.hid hb.os
  have HAL := Lib.hid hal
  have HFE := Lib.hid hfe
  obtain ⟨fa, fc, rfl, _⟩ := hd
  obtain ⟨fa2, fc2, rfl, _⟩ := hd2
  clear hn hal hfe ha hb hB hlen
  go_enter Tryd.func18, Tryd.ntmps18
  go_upto_region 5 with fail
  change Code.wp _ _ _ _ (sameW w #[.int .u8 a.kind, .int .u8 a.wcc, vo, .int .i64 a.err, .slice fa a.fields.length fc] #[.int .u8 b.kind, .int .u8 b.wcc, vo2, .int .i64 b.err, .slice fa2 b.fields.length fc2])
  have hq := sameW_q w #[.int .u8 a.kind, .int .u8 a.wcc, vo, .int .i64 a.err, .slice fa a.fields.length fc] #[.int .u8 b.kind, .int .u8 b.wcc, vo2, .int .i64 b.err, .slice fa2 b.fields.length fc2]
  generalize sameW w #[.int .u8 a.kind, .int .u8 a.wcc, vo, .int .i64 a.err, .slice fa a.fields.length fc] #[.int .u8 b.kind, .int .u8 b.wcc, vo2, .int .i64 b.err, .slice fa2 b.fields.length fc2] = W1 at hq ⊢
  obtain ⟨s, hs⟩ : ∃ s, s = w.heap.size := ⟨_, rfl⟩
  rw [← hs] at hq ⊢
  have HQ := Lib.hid hq
  have HS := Lib.hid hs
  have HO := Lib.hid (show Below w.heap.size w W1 from by have := hq.old; rwa [hs] at this)
  have HW := Lib.hid (same1_waits (s + 1 + 1 + 1 + 1) (s + 1 + 1 + 1) (s + 1 + 1) (H.out.below HO.out) (K.out.below HO.out) HOSA.out HOSB.out HAL.out HFE.out HQ.out.mc HQ.out.mp HQ.out.wt (by omega) (by omega) (by omega))
  clear hq hs hp hp2
  obtain ⟨q0, q1, q2, q3, q4, _⟩ := cells5 HQ.out.b1
  obtain ⟨r0, r1, r2, r3, r4, _⟩ := cells5 HQ.out.b2
  obtain ⟨f0, _⟩ := cell1 HQ.out.fn
  go_wp2_with fail
  refine HW.out.mono ?_
  rintro e W2 ⟨rfl, ga, gb, oa, ob, ca, cb, n, hu, hv, hwt⟩
  have hva : Value.slice fa a.fields.length fc = .slice oa n ca := by
    injection hu with hu
    have := congrArg (fun A : Array Value => A[4]?) hu
    simpa using this
  have hvb : Value.slice fa2 b.fields.length fc2 = .slice ob n cb := by
    injection hv with hv
    have := congrArg (fun A : Array Value => A[4]?) hv
    simpa using this
  rw [hva, hvb] at HEQ
  rw [hva, hvb]
  obtain ⟨htw, g, c, hwq, hc1, hca, hcb, hgg⟩ := hwt
  have HFN2 := Lib.hid ((htw.block _ (lt_of_block HQ.out.fn) (fun e => by rcases e with e | e <;> omega)).trans HQ.out.fn)
  have HO2 := Lib.hid (show Below w.heap.size w W2 from HO.out.trans (htw.below HO.out.size fun k hk => by have := HS.out; rcases hk with rfl | rfl <;> omega))
  have HWQ := Lib.hid hwq
  have HCA := Lib.hid hca
  have HCB := Lib.hid hcb
  have HGG := Lib.hid (show s + 1 + 1 < g from Nat.lt_of_lt_of_le (lt_of_block HQ.out.wt) hgg)
  clear q0 q1 q2 q3 q4 r0 r1 r2 r3 r4 f0 hu hv hva hvb htw hwq hca hcb hgg HW H K HD HD2
  go_wp2_with fail
  go_loopw [] (fun wr => wr = W2 ∨ (B = true ∧ Below w.heap.size w wr ∧ ∃ g c, wr.cell? ⟨s + 1 + 1, 0, none⟩ = some (.slice (some ⟨g, 0, none⟩) 0 c))) (fun wr => waitN (s + 1 + 1) wr)
  case atStart => exact .inl rfl
  case round =>
    rcases hrel with rfl | ⟨rfl, hold, g', c', hcell⟩
    · obtain ⟨u0, uf⟩ := cell1 HWQ.out
      have ca0 := HCA.out
      have cb0 := HCB.out
      have hsl := slice0 g c hc1
      have ht : ((1 : Int) > 0) = True := by simp
      have hb3 := below_alloc wr (.cells #[.slice oa n ca, .slice ob n cb] 76)
      have hk3 := heap_alloc_new wr (.cells #[.slice oa n ca, .slice ob n cb] 76)
      obtain ⟨W3, hW3⟩ : ∃ W3, W3 = wr.alloc (.cells #[.slice oa n ca, .slice ob n cb] 76) := ⟨_, rfl⟩
      obtain ⟨kk, hkk⟩ : ∃ kk, kk = wr.heap.size := ⟨_, rfl⟩
      rw [← hW3] at hb3 hk3
      rw [← hkk] at hk3
      have HW3 := Lib.hid hW3.symm
      have HKK := Lib.hid hkk.symm
      have HO3 := Lib.hid (HO2.out.trans (hb3.mono HO2.out.size))
      have HFN3 := Lib.hid ((hb3.block _ (lt_of_block HFN2.out)).trans HFN2.out)
      have HWQ3 := Lib.hid ((hb3.block _ (lt_of_block HWQ.out)).trans HWQ.out)
      have HK3 := Lib.hid hk3
      have hkq : s + 1 + 1 < kk := by rw [hkk]; exact lt_of_block HWQ.out
      clear hb3 hk3 hW3 hkk
      have HWQ4 := Lib.hid (heap_set HWQ3.out 0 (.slice (some ⟨g, 0, none⟩) 0 c))
      have ht4 := turn_set W3 (s + 1 + 1) 0 (.slice (some ⟨g, 0, none⟩) 0 c)
      have HO4 := Lib.hid (HO3.out.trans (ht4.at_below HO3.out.size (by have := HS.out; omega)))
      have HFN4 := Lib.hid ((ht4.block _ (lt_of_block HFN3.out) (fun e => by have : s + 1 + 1 + 1 + 1 + 1 = s + 1 + 1 := e; omega)).trans HFN3.out)
      have HK4 := Lib.hid ((ht4.block _ (lt_of_block HK3.out) (fun e => by have : kk = s + 1 + 1 := e; omega)).trans HK3.out)
      go_upto_region 9 with fail
      rw [HW3.out, HKK.out]
      clear u0 uf ca0 cb0
      obtain ⟨u0, uf⟩ := cell1 HWQ3.out
      go_upto_region 10 with fail
      obtain ⟨W4, hW4⟩ : ∃ W4, W4 = W3.setCell ⟨s + 1 + 1, 0, none⟩ (.slice (some ⟨g, 0, none⟩) 0 c) := ⟨_, rfl⟩
      rw [← hW4] at HWQ4 HO4 HFN4 HK4 ⊢
      clear hW4 u0 uf ht4
      obtain ⟨k0, k1⟩ := cells2 HK4.out
      go_wp2_with fail
      refine (HEQ.out _ _ _ _ HO4.out HFN4.out).mono ?_
      rintro e W5 ⟨rfl, b5⟩
      have HO5 := Lib.hid (HO4.out.trans (b5.mono HO4.out.size))
      have HWQ5 := Lib.hid ((b5.block _ (lt_of_block HWQ4.out)).trans HWQ4.out)
      clear b5 k0 k1
      cases B
      · go_wp2_with fail
        go_ret
        exact ⟨rfl, HO5.out⟩
      · go_wp2_with fail
        go_roundw
        case rel => exact .inr ⟨by simp, HO5.out, g, c, (cell1 HWQ5.out).1⟩
        case measure =>
          unfold waitN
          rw [(cell1 HWQ5.out).1, (cell1 HWQ.out).1]
          simp
    · have HOL := Lib.hid hold
      clear hold
      go_wp2_with fail
      go_ret
      exact ⟨rfl, HOL.out⟩
end Go.Proofs.YtmmgebiojpnhcaaDoor.Cmd
