/-
  Same, where nothing has to wait.
-/
import Derived.Test.YtmmgebiojpnhcaaDoorCmdM
namespace Go.Proofs.YtmmgebiojpnhcaaDoor.Cmd
open Go.RowKit Base Go.Proofs.YtmmgebiojpnhcaaDoor.Ord
set_option linter.unusedVariables false
set_option linter.unusedSimpArgs false

theorem alloc_keep {w : World} {o x : Obj} {k : Nat} (h : w.heap[k]? = some x) : (w.alloc o).heap[k]? = some x := (Below.heap_alloc _ _ _ (lt_of_block h)).trans h
/-- The world behind Same's own variables. -/
def sameW (w : World) (A B : Array Value) : World := (((((w.alloc (.cells A 28)).alloc (.cells B 28)).alloc (.cells #[.slice none 0 0] 68)).alloc (.map #[] 0)).alloc (.cells #[.map (some (w.heap.size + 1 + 1 + 1))] 69)).alloc
  (.cells #[.func (.func 30) #[] #[.pointer (some ⟨w.heap.size + 1 + 1 + 1 + 1, 0, none⟩), .pointer (some ⟨w.heap.size + 1 + 1, 0, none⟩)]] 44)
structure SQ (w : World) (s : Nat) (A B : Array Value) (W : World) : Prop where
  hs : s = w.heap.size
  old : Below s w W
  b1 : W.heap[s]? = some (.cells A 28 (0, 0))
  b2 : W.heap[s + 1]? = some (.cells B 28 (0, 0))
  wt : W.heap[s + 1 + 1]? = some (.cells #[.slice none 0 0] 68 (0, 0))
  mp : W.heap[s + 1 + 1 + 1]? = some (.map #[] 0)
  mc : W.heap[s + 1 + 1 + 1 + 1]? = some (.cells #[.map (some (s + 1 + 1 + 1))] 69 (0, 0))
  fn : W.heap[s + 1 + 1 + 1 + 1 + 1]? = some (.cells #[.func (.func 30) #[] #[.pointer (some ⟨s + 1 + 1 + 1 + 1, 0, none⟩), .pointer (some ⟨s + 1 + 1, 0, none⟩)]] 44 (0, 0))
theorem sameW_q (w : World) (A B : Array Value) : SQ w w.heap.size A B (sameW w A B) := by
  unfold sameW
  have h1 := heap_alloc_new w (.cells A 28)
  have s1 := World.size_alloc w (.cells A 28)
  have o1 := below_alloc w (.cells A 28)
  generalize w.alloc (.cells A 28) = W1 at h1 s1 o1 ⊢
  have h2 := heap_alloc_new W1 (.cells B 28)
  have s2 := World.size_alloc W1 (.cells B 28)
  have o2 := o1.trans ((below_alloc W1 (.cells B 28)).mono o1.size)
  have k1 := alloc_keep (o := .cells B 28) h1
  generalize W1.alloc (.cells B 28) = W2 at h2 s2 o2 k1 ⊢
  rw [s1] at h2 s2
  have h3 := heap_alloc_new W2 (.cells #[.slice none 0 0] 68)
  have s3 := World.size_alloc W2 (.cells #[.slice none 0 0] 68)
  have o3 := o2.trans ((below_alloc W2 (.cells #[.slice none 0 0] 68)).mono o2.size)
  have k1 := alloc_keep (o := .cells #[.slice none 0 0] 68) k1
  have k2 := alloc_keep (o := .cells #[.slice none 0 0] 68) h2
  generalize W2.alloc (.cells #[.slice none 0 0] 68) = W3 at h3 s3 o3 k1 k2 ⊢
  rw [s2] at h3 s3
  have h4 := heap_alloc_new W3 (.map #[] 0)
  have s4 := World.size_alloc W3 (.map #[] 0)
  have o4 := o3.trans ((below_alloc W3 (.map #[] 0)).mono o3.size)
  have k1 := alloc_keep (o := .map #[] 0) k1
  have k2 := alloc_keep (o := .map #[] 0) k2
  have k3 := alloc_keep (o := .map #[] 0) h3
  generalize W3.alloc (.map #[] 0) = W4 at h4 s4 o4 k1 k2 k3 ⊢
  rw [s3] at h4 s4
  have h5 := heap_alloc_new W4 (.cells #[.map (some (w.heap.size + 1 + 1 + 1))] 69)
  have s5 := World.size_alloc W4 (.cells #[.map (some (w.heap.size + 1 + 1 + 1))] 69)
  have o5 := o4.trans ((below_alloc W4 (.cells #[.map (some (w.heap.size + 1 + 1 + 1))] 69)).mono o4.size)
  have k1 := alloc_keep (o := .cells #[.map (some (w.heap.size + 1 + 1 + 1))] 69) k1
  have k2 := alloc_keep (o := .cells #[.map (some (w.heap.size + 1 + 1 + 1))] 69) k2
  have k3 := alloc_keep (o := .cells #[.map (some (w.heap.size + 1 + 1 + 1))] 69) k3
  have k4 := alloc_keep (o := .cells #[.map (some (w.heap.size + 1 + 1 + 1))] 69) h4
  generalize W4.alloc (.cells #[.map (some (w.heap.size + 1 + 1 + 1))] 69) = W5 at h5 s5 o5 k1 k2 k3 k4 ⊢
  rw [s4] at h5 s5
  have h6 := heap_alloc_new W5 (.cells #[.func (.func 30) #[] #[.pointer (some ⟨w.heap.size + 1 + 1 + 1 + 1, 0, none⟩), .pointer (some ⟨w.heap.size + 1 + 1, 0, none⟩)]] 44)
  rw [s5] at h6
  exact ⟨rfl, o5.trans ((below_alloc W5 _).mono o5.size), alloc_keep k1, alloc_keep k2, alloc_keep k3, alloc_keep k4, alloc_keep h5, h6⟩
theorem SQ.below {w W W' : World} {s : Nat} {A B : Array Value} (h : SQ w s A B W) (t : Below W.heap.size W W') : SQ w s A B W' :=
  ⟨h.hs, h.old.trans (t.mono (by rw [h.hs]; exact h.old.size)), (t.block _ (lt_of_block h.b1)).trans h.b1, (t.block _ (lt_of_block h.b2)).trans h.b2, (t.block _ (lt_of_block h.wt)).trans h.wt, (t.block _ (lt_of_block h.mp)).trans h.mp, (t.block _ (lt_of_block h.mc)).trans h.mc, (t.block _ (lt_of_block h.fn)).trans h.fn⟩
theorem cell1 {W : World} {g : Nat} {x : Value} {t : TypeId} (h : W.heap[g]? = some (.cells #[x] t (0, 0))) : W.cell? ⟨g, 0, none⟩ = some x ∧ W.frozen? ⟨g, 0, none⟩ = false := by
  simp [World.cell?, World.frozen?, h]
set_option maxRecDepth 100000 in
set_option maxHeartbeats 4000000 in
theorem same_quiet {w : World} {a b : Cm} {u v : Value} (h : CmR w a u) (k : CmR w b v) (ha : OsOk a.ords) (hb : OsOk b.ords) (hn : alikeK a b = false ∨ a.fields = []) :
    Calls Tryd.prog 18 #[u, v] w fun e w' => e = .returned (.bool (alikeK a b)) ∧ Below w.heap.size w w' := by
  have hmf : ∀ (fn : Fn) (first cap : Array Value) (w : World), (Instr.makeFunc fn first cap).run Tryd.prog w = .ok (.func fn first cap) w := fun _ _ _ _ => rfl
  have hmm : ∀ (w : World), (Instr.makeMap 69 none).run Tryd.prog w = .ok (.map (some w.heap.size)) (w.alloc (.map #[] 0)) := fun w => by simp [Instr.makeMap, go_sem]
  have hst : ∀ (x y : Addr) (w : World) (a : Addr) (m : Mode), (store a (.func (.func 30) #[] #[.pointer (some x), .pointer (some y)]) m).run Tryd.prog w = stored Tryd.prog w a (.func (.func 30) #[] #[.pointer (some x), .pointer (some y)]) m := fun x y w a m => run_store Tryd.prog w a _ m rfl
  have H := Lib.hid h
  have K := Lib.hid k
  obtain ⟨vo, vf, rfl, hp, hd⟩ := h
  obtain ⟨vo2, vf2, rfl, hp2, hd2⟩ := k
  obtain ⟨R, hR⟩ : ∃ R, R = alikeK a b := ⟨_, rfl⟩
  have HS1 : Hid (∀ (p q : Addr) W, Below w.heap.size w W → Calls Tryd.prog 30 #[.agg #[.int .u8 a.kind, .int .u8 a.wcc, vo, .int .i64 a.err, vf], .agg #[.int .u8 b.kind, .int .u8 b.wcc, vo2, .int .i64 b.err, vf2], .pointer (some p), .pointer (some q)] W fun e w' => e = .returned (.bool R) ∧ Below W.heap.size W w') := Lib.hid (fun p q W hW => by rw [hR]; exact same1_quiet p q (H.out.below hW) (K.out.below hW) ha hb hn)
  rw [← hR]
  obtain ⟨fa, fc, rfl, _⟩ := hd
  obtain ⟨fa2, fc2, rfl, _⟩ := hd2
  go_enter Tryd.func18, Tryd.ntmps18
  go_upto_region 5 with fail
  change Code.wp _ _ _ _ (sameW w #[.int .u8 a.kind, .int .u8 a.wcc, vo, .int .i64 a.err, .slice fa a.fields.length fc] #[.int .u8 b.kind, .int .u8 b.wcc, vo2, .int .i64 b.err, .slice fa2 b.fields.length fc2])
  have hq := sameW_q w #[.int .u8 a.kind, .int .u8 a.wcc, vo, .int .i64 a.err, .slice fa a.fields.length fc] #[.int .u8 b.kind, .int .u8 b.wcc, vo2, .int .i64 b.err, .slice fa2 b.fields.length fc2]
  generalize sameW w #[.int .u8 a.kind, .int .u8 a.wcc, vo, .int .i64 a.err, .slice fa a.fields.length fc] #[.int .u8 b.kind, .int .u8 b.wcc, vo2, .int .i64 b.err, .slice fa2 b.fields.length fc2] = W1 at hq ⊢
  obtain ⟨s, hs⟩ : ∃ s, s = w.heap.size := ⟨_, rfl⟩
  rw [← hs] at hq ⊢
  have HQ := Lib.hid hq
  have HS := Lib.hid hs
  have HO := Lib.hid (show Below w.heap.size w W1 from by have := hq.old; rwa [hs] at this)
  clear hq hs hp hp2 hR
  obtain ⟨q0, q1, q2, q3, q4, _⟩ := cells5 HQ.out.b1
  obtain ⟨r0, r1, r2, r3, r4, _⟩ := cells5 HQ.out.b2
  obtain ⟨f0, _⟩ := cell1 HQ.out.fn
  go_wp2_with fail
  refine (HS1.out _ _ _ HO.out).mono ?_
  rintro e W2 ⟨rfl, b2⟩
  have HQ2 := Lib.hid (HQ.out.below b2)
  have HO2 := Lib.hid (HO.out.trans (b2.mono HO.out.size))
  clear b2 q0 q1 q2 q3 q4 r0 r1 r2 r3 r4 f0
  obtain ⟨t0, _⟩ := cell1 HQ2.out.wt
  cases R
  · go_wp2_with fail
    go_ret
    exact ⟨rfl, HO2.out⟩
  · go_wp2_with fail
    go_loopw [] (fun wr => wr = W2) (fun _ => 0)
    case atStart => rfl
    case round =>
      subst hrel
      go_wp2_with fail
      go_ret
      exact ⟨rfl, HO2.out⟩
end Go.Proofs.YtmmgebiojpnhcaaDoor.Cmd
