/-
  Same's first closure, where nothing has to wait; its second one.
-/
import Derived.Test.YtmmgebiojpnhcaaDoorCmdL
namespace Go.Proofs.YtmmgebiojpnhcaaDoor.Cmd
open Go.RowKit Base Go.Proofs.YtmmgebiojpnhcaaDoor.Ord
set_option linter.unusedVariables false
set_option linter.unusedSimpArgs false

set_option maxRecDepth 100000 in
set_option maxHeartbeats 4000000 in
theorem same1_quiet {w : World} {a b : Cm} {u v : Value} (p q : Addr) (h : CmR w a u) (k : CmR w b v) (ha : OsOk a.ords) (hb : OsOk b.ords) (hn : alikeK a b = false ∨ a.fields = []) :
    Calls Tryd.prog 30 #[u, v, .pointer (some p), .pointer (some q)] w fun e w' => e = .returned (.bool (alikeK a b)) ∧ Below w.heap.size w w' := by
  have H := Lib.hid h
  have K := Lib.hid k
  obtain ⟨vo, vf, rfl, hp, hd⟩ := h
  obtain ⟨vo2, vf2, rfl, hp2, hd2⟩ := k
  obtain ⟨R, hR⟩ : ∃ R, R = alikeK a b := ⟨_, rfl⟩
  rw [← hR] at hn ⊢
  have HAL : Hid (∀ W, Below w.heap.size w W → Calls Tryd.prog 31 #[.agg #[.int .u8 a.kind, .int .u8 a.wcc, vo, .int .i64 a.err, vf], .agg #[.int .u8 b.kind, .int .u8 b.wcc, vo2, .int .i64 b.err, vf2]] W fun e w' => e = .returned (.bool R) ∧ Below W.heap.size W w') := Lib.hid (fun W hW => by rw [hR]; exact alike_any (H.out.below hW) (K.out.below hW) ha hb)
  obtain ⟨fa, fc, rfl, _⟩ := hd
  obtain ⟨fa2, fc2, rfl, _⟩ := hd2
  obtain ⟨n1, hn1⟩ : ∃ n, n = a.fields.length := ⟨_, rfl⟩
  obtain ⟨n2, hn2⟩ : ∃ n, n = b.fields.length := ⟨_, rfl⟩
  rw [← hn1, ← hn2] at HAL ⊢
  have hn' : R = false ∨ n1 = 0 := hn.imp id fun e => by rw [hn1, e]; rfl
  obtain ⟨k1, hk1⟩ : ∃ x, x = a.kind := ⟨_, rfl⟩
  obtain ⟨c1, hc1⟩ : ∃ x, x = a.wcc := ⟨_, rfl⟩
  obtain ⟨e1, he1⟩ : ∃ x, x = a.err := ⟨_, rfl⟩
  obtain ⟨k2, hk2⟩ : ∃ x, x = b.kind := ⟨_, rfl⟩
  obtain ⟨c2, hc2⟩ : ∃ x, x = b.wcc := ⟨_, rfl⟩
  obtain ⟨e2, he2⟩ : ∃ x, x = b.err := ⟨_, rfl⟩
  rw [← hk1, ← hc1, ← he1, ← hk2, ← hc2, ← he2] at HAL ⊢
  clear hn1 hn2 hk1 hc1 he1 hk2 hc2 he2 hn hp hp2 hR
  have x1 := below_alloc w (.cells #[.int .u8 k1, .int .u8 c1, vo, .int .i64 e1, .slice fa n1 fc] 28)
  have y1 := heap_alloc_new w (.cells #[.int .u8 k1, .int .u8 c1, vo, .int .i64 e1, .slice fa n1 fc] 28)
  have z1 := World.size_alloc w (.cells #[.int .u8 k1, .int .u8 c1, vo, .int .i64 e1, .slice fa n1 fc] 28)
  obtain ⟨W1, hW1⟩ : ∃ W1, W1 = w.alloc (.cells #[.int .u8 k1, .int .u8 c1, vo, .int .i64 e1, .slice fa n1 fc] 28) := ⟨_, rfl⟩
  rw [← hW1] at x1 y1 z1
  have x2 := below_alloc W1 (.cells #[.int .u8 k2, .int .u8 c2, vo2, .int .i64 e2, .slice fa2 n2 fc2] 28)
  have y2 := heap_alloc_new W1 (.cells #[.int .u8 k2, .int .u8 c2, vo2, .int .i64 e2, .slice fa2 n2 fc2] 28)
  obtain ⟨W2, hW2⟩ : ∃ W2, W2 = W1.alloc (.cells #[.int .u8 k2, .int .u8 c2, vo2, .int .i64 e2, .slice fa2 n2 fc2] 28) := ⟨_, rfl⟩
  rw [← hW2] at x2 y2
  have y3 := (x2.block _ (lt_of_block y1)).trans y1
  obtain ⟨s, hs⟩ : ∃ s, s = w.heap.size := ⟨_, rfl⟩
  have hold : Below w.heap.size w W2 := x1.trans (x2.mono x1.size)
  rw [← hs] at y3
  rw [z1, ← hs] at y2
  have HY2 := Lib.hid y2
  have HY3 := Lib.hid y3
  have HW1 := Lib.hid hW1.symm
  have HW2 := Lib.hid hW2.symm
  have HS := Lib.hid hs.symm
  have HO := Lib.hid hold
  clear x1 y1 z1 x2 y2 y3 hW1 hW2 hs hold
  obtain ⟨q0, q1, q2, q3, q4, _⟩ := cells5 HY3.out
  obtain ⟨r0, r1, r2, r3, r4, _⟩ := cells5 HY2.out
  go_enter Tryd.func30, Tryd.ntmps30
  go_upto_region 1 with fail
  rw [HW1.out, HW2.out, HS.out]
  go_wp2_with fail
  refine (HAL.out _ HO.out).mono ?_
  rintro e W3 ⟨rfl, b3⟩
  have HB3 := Lib.hid (HO.out.trans (b3.mono HO.out.size))
  have hy := (b3.block _ (lt_of_block HY3.out)).trans HY3.out
  clear b3 q0 q1 q2 q3 q4 r0 r1 r2 r3 r4
  obtain ⟨q0, q1, q2, q3, q4, _⟩ := cells5 hy
  clear hy
  cases R
  · go_wp2_with fail
    go_ret
    exact ⟨rfl, HB3.out⟩
  · obtain rfl : n1 = 0 := by simpa using hn'
    go_wp2_with fail
    go_ret
    exact ⟨rfl, HB3.out⟩
end Go.Proofs.YtmmgebiojpnhcaaDoor.Cmd
