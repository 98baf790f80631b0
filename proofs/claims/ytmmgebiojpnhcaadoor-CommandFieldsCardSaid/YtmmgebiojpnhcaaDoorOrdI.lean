/-
  Rows of orders, of the call's own; the deferred call that takes what was thrown.
-/
import Derived.Test.YtmmgebiojpnhcaaDoorOrdH
import Derived.Lib.OwnKind
namespace Go.Proofs.YtmmgebiojpnhcaaDoor.Ord
open Go.RowKit Base
set_option linter.unusedVariables false
set_option linter.unusedSimpArgs false

abbrev OrdP := Or × Value × Value
def ordC (P : List OrdP) : List Value := P.flatMap fun p => [.int .u8 p.1.kind, .int .i64 p.1.addr, .int .u8 p.1.byte, .bool p.1.ge, p.2.1, p.2.2]
theorem ordC_append (P Q : List OrdP) : ordC (P ++ Q) = ordC P ++ ordC Q := by simp [ordC]
theorem info_ords : (Tryd.prog.info? 92).map (fun i => (i.zero, i.size, i.bytes)) = some (some (.agg #[.int .u8 0, .int .i64 0, .int .u8 0, .bool false, .slice none 0 0, .slice none 0 0]), 6, 72) := by kernel_rfl
structure OrdsOwn (s : Nat) (w : World) (v : Value) (P : List OrdP) : Prop where
  row : w.ownsRow s 92 6 v P.length (ordC P)
  own : ∀ p ∈ P, PairRow s w p.2.1 p.1.pairs ∧ OwnBytes s w p.2.2 p.1.data
section
variable {s : Nat} {w w' : World} {v : Value} {P : List OrdP}
theorem ord_ne {v u : Value} {n m k s' : Nat} {t : TypeId} {xs ys : List Value} (ht : t ≠ 92) (h : w.ownsRow s 92 6 v n xs) (k : w.ownsRow s' t k u m ys) : ∀ g, v.ownBlock = some g → u.ownBlock = some g → False := by
  intro g e1 e2
  obtain ⟨c, fz, h1⟩ := Lib.ownsRow_kind h g e1
  obtain ⟨c', fz', h2⟩ := Lib.ownsRow_kind k g e2
  rw [h1] at h2
  injection h2 with h2
  injection h2 with _ h2
  exact ht h2.symm
theorem OrdsOwn.nil (s : Nat) (w : World) : OrdsOwn s w (.slice none 0 0) [] := ⟨⟨rfl, .inl ⟨rfl, rfl⟩⟩, by simp⟩
theorem own_keep {e : TypeId} {k n : Nat} {xs : List Value} (h : w.ownsRow s e k v n xs) (u : ∀ g, v.ownBlock = some g → s ≤ g → g < w.heap.size → w'.heap[g]? = w.heap[g]?) : w'.ownsRow s e k v n xs := by
  refine ⟨h.1, ?_⟩
  rcases h.2 with h0 | ⟨g, cap, cur, rfl, hg, hgb, rest⟩
  · exact .inl h0
  · exact .inr ⟨g, cap, cur, rfl, hg, (u g (by simp [Value.ownBlock]) hg (lt_of_block hgb)).trans hgb, rest⟩
theorem OrdsOwn.keep (h : OrdsOwn s w v P) (u : ∀ g, s ≤ g → g < w.heap.size → w'.heap[g]? = w.heap[g]?) : OrdsOwn s w' v P :=
  ⟨own_keep h.row fun g _ => u g, fun p hp => ⟨(h.own p hp).1.keep u, (h.own p hp).2.keep u⟩⟩
theorem OrdsOwn.below (h : OrdsOwn s w v P) (u : Below w.heap.size w w') : OrdsOwn s w' v P := h.keep fun g _ hl => u.block g hl
theorem OrdsOwn.turn {T : Nat → Prop} (h : OrdsOwn s w v P) (t : Turn T w w') (hT : ∀ k, T k → k < s) : OrdsOwn s w' v P := h.keep fun g hs hl => t.block g hl fun e => by have := hT g e; omega
theorem OrdsOwn.form (h : OrdsOwn s w v P) : ∃ a cap, v = .slice a P.length cap := by
  rcases h.row.2 with ⟨rfl, h0⟩ | ⟨g, cap, cur, rfl, _⟩
  · exact ⟨none, 0, by rw [h0]⟩
  · exact ⟨_, _, rfl⟩
theorem OrdsOwn.grown {w1 : World} {v' vp vd : Value} {q : Or} {o : Obj} (h : OrdsOwn s w v P) (hp : PairRow s w vp q.pairs) (hd : OwnBytes s w vd q.data) (hown : w1.ownsRow s 92 6 v' (P.length + 1) (ordC P ++ [.int .u8 q.kind, .int .i64 q.addr, .int .u8 q.byte, .bool q.ge, vp, vd])) (hg : (w.alloc o).grownBy w1 v.ownBlock) : OrdsOwn s w1 v' (P ++ [(q, vp, vd)]) := by
  have key : ∀ {e : TypeId} {k n : Nat} {u : Value} {xs : List Value}, e ≠ 92 → w.ownsRow s e k u n xs → w1.ownsRow s e k u n xs := fun {e k n u xs} he hq => by
    refine own_keep hq fun g hqg _ hl => ?_
    exact (hg.block g (by rw [World.size_alloc]; omega) fun ee => ord_ne he h.row hq g ee.symm hqg).trans (Below.heap_alloc _ _ _ hl)
  have kp : ∀ {u : Value} {ps : List (Int × Int)}, PairRow s w u ps → PairRow s w1 u ps := fun {u ps} hq => key (by decide) hq
  have kd : ∀ {u : Value} {ps : List Int}, OwnBytes s w u ps → OwnBytes s w1 u ps := fun {u ps} hq => key (by decide) hq
  refine ⟨by rw [List.length_append, ordC_append]; exact hown, fun p hpm => ?_⟩
  rcases List.mem_append.1 hpm with hpm | hpm
  · exact ⟨kp (h.own p hpm).1, kd (h.own p hpm).2⟩
  · rw [List.mem_singleton.1 hpm]; exact ⟨kp hp, kd hd⟩
theorem ord_cl (w : World) (k a b : Int) (ge : Bool) (vp vd : Value) : ∀ (j : Nat) (u : Value), ([.int .u8 k, .int .i64 a, .int .u8 b, .bool ge, vp, vd] : List Value)[j]? = some u → (w.alloc (.cells #[.int .u8 k, .int .i64 a, .int .u8 b, .bool ge, vp, vd] 92)).cell? ((⟨w.heap.size, 0, none⟩ : Addr).add j) = some u := by
  intro j u hu
  match j, hu with
  | 0, hu => simp at hu; subst hu; simp [go_sem, Addr.add]
  | 1, hu => simp at hu; subst hu; simp [go_sem, Addr.add]
  | 2, hu => simp at hu; subst hu; simp [go_sem, Addr.add]
  | 3, hu => simp at hu; subst hu; simp [go_sem, Addr.add]
  | 4, hu => simp at hu; subst hu; simp [go_sem, Addr.add]
  | 5, hu => simp at hu; subst hu; simp [go_sem, Addr.add]
end
/-- An error's number. -/
def errOf : Option Flt → Int | Option.none => 0 | some .short => 20 | some .none => 31 | some .unfit => 33
theorem as_ee (w : World) : (Instr.typeAssert (.iface 85 (.agg #[])) 20 85 true).run Tryd.prog w = .ok (.tuple #[.agg #[], .bool true]) w := by kernel_rfl
theorem as_ne (w : World) : (Instr.typeAssert (.iface 86 (.agg #[])) 20 85 true).run Tryd.prog w = .ok (.tuple #[.agg #[], .bool false]) w := by kernel_rfl
theorem as_nn (w : World) : (Instr.typeAssert (.iface 86 (.agg #[])) 20 86 true).run Tryd.prog w = .ok (.tuple #[.agg #[], .bool true]) w := by kernel_rfl
theorem as_ue (w : World) : (Instr.typeAssert (.iface 87 (.agg #[])) 20 85 true).run Tryd.prog w = .ok (.tuple #[.agg #[], .bool false]) w := by kernel_rfl
theorem as_un (w : World) : (Instr.typeAssert (.iface 87 (.agg #[])) 20 86 true).run Tryd.prog w = .ok (.tuple #[.agg #[], .bool false]) w := by kernel_rfl
theorem as_uu (w : World) : (Instr.typeAssert (.iface 87 (.agg #[])) 20 87 true).run Tryd.prog w = .ok (.tuple #[.agg #[], .bool true]) w := by kernel_rfl
theorem arr18 (p v : Value) : #[p] ++ (Array.replicate 17 undef).setIfInBounds 5 v = #[p, undef, undef, undef, undef, undef, v, undef, undef, undef, undef, undef, undef, undef, undef, undef, undef, undef] := by with_unfolding_all rfl
theorem catch_idle (p : Addr) (w : World) :
    CallsD Tryd.prog 38 #[.pointer (some p)] .returning w fun e u' w' => e = .returned (.tuple #[]) ∧ u' = .returning ∧ w' = w := by
  refine callsD_of_wpS Tryd.func38 rfl fun c₀ cs hu => ?_
  apply wpS_seq
  apply wpS_region
  simp [wpOpsS, go_sem, recoverD, hu, Tryd.ntmps38, Exit.thenS]
  refine wpS_of_wp (Code.wp_mono (Q := fun e a' w' => e = .normal ∧ a'.defers = [] ∧ w' = w) ?_ ?_)
  · rintro e a' w' ⟨rfl, hd, rfl⟩
    cases c₀
    simp_all [bodyPostS, results, Tryd.results38]
  · have key : ∀ Q : Exit → Act → World → Prop, (∀ a' : Act, a'.defers = [] → Q .normal a' w) → Q = Q := fun _ _ => rfl
    generalize hQ : (fun (e : Exit) (a' : Act) (w' : World) => e = Exit.normal ∧ a'.defers = [] ∧ w' = w) = Q
    have HQ : Hid (∀ a' : Act, a'.defers = [] → Q .normal a' w) := Lib.hid (by rw [← hQ]; exact fun a' h => ⟨rfl, h, rfl⟩)
    clear hQ key
    rw [arr18]
    go_wp2
    exact HQ.out _ rfl
set_option maxRecDepth 100000 in
set_option maxHeartbeats 1000000 in
theorem catch_panic (g : Nat) (x : Int) (f : Flt) (w : World) (hblk : w.heap[g]? = some (.cells #[.int .i64 x] 25 (0, 0))) :
    CallsD Tryd.prog 38 #[.pointer (some ⟨g, 0, none⟩)] (.panicking [{ v := .iface (fty f) (.agg #[]), recovered := false }]) w fun e u' w' =>
      e = .returned (.tuple #[]) ∧ u' = .panicking [{ v := .iface (fty f) (.agg #[]), recovered := true }] ∧ ∃ W, Below w.heap.size w W ∧ w' = W.setCell ⟨g, 0, none⟩ (.int .i64 (errOf (some f))) := by
  have hal : ∀ o, (w.alloc o).heap[g]? = some (.cells #[.int .i64 x] 25 (0, 0)) := fun o => ((below_alloc w o).block g (lt_of_block hblk)).trans hblk
  have hc : ∀ o, (w.alloc o).cell? ⟨g, 0, none⟩ = some (.int .i64 x) := fun o => by simp [World.cell?, hal o]
  have hz : ∀ o, (w.alloc o).frozen? ⟨g, 0, none⟩ = false := fun o => by simp [World.frozen?, hal o]
  obtain ⟨p, hp⟩ : ∃ p : Addr, p = ⟨g, 0, none⟩ := ⟨_, rfl⟩
  rw [← hp] at hc hz ⊢
  clear hp hal hblk
  refine callsD_of_wpS Tryd.func38 rfl fun c₀ cs hu => ?_
  apply wpS_seq
  apply wpS_region
  simp [wpOpsS, go_sem, recoverD, hu, Tryd.ntmps38, Exit.thenS]
  refine wpS_of_wp (Code.wp_mono (Q := fun e a' w' => e = .normal ∧ a'.defers = [] ∧ ∃ W, Below w.heap.size w W ∧ w' = W.setCell p (.int .i64 (errOf (some f)))) ?_ ?_)
  · rintro e a' w' ⟨rfl, hd, W, hb, rfl⟩
    cases c₀
    simp_all [bodyPostS, results, Tryd.results38]
    exact ⟨W, hb, rfl⟩
  · generalize hQ : (fun (e : Exit) (a' : Act) (w' : World) => e = Exit.normal ∧ a'.defers = [] ∧ ∃ W, Below w.heap.size w W ∧ w' = W.setCell p (.int .i64 (errOf (some f)))) = Q
    have HQ : Hid (∀ (a' : Act) (W : World), a'.defers = [] → Below w.heap.size w W → Q .normal a' (W.setCell p (.int .i64 (errOf (some f))))) := Lib.hid (by rw [← hQ]; exact fun a' W h hb => ⟨rfl, h, W, hb, rfl⟩)
    clear hQ
    rw [arr18]
    have z0 := below_alloc w
    cases f
    · have a1 := as_ee
      unfold fty
      go_wp2
      exact HQ.out _ _ rfl (z0 _)
    · have a1 := as_ne
      have a2 := as_nn
      unfold fty
      go_wp2
      exact HQ.out _ _ rfl (z0 _)
    · have a1 := as_ue
      have a2 := as_un
      have a3 := as_uu
      unfold fty
      go_wp2
      exact HQ.out _ _ rfl (z0 _)
end Go.Proofs.YtmmgebiojpnhcaaDoor.Ord
