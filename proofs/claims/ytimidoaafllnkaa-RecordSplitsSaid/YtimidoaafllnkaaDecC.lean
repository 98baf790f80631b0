/-
  The contract of lay: a byte of data behind the events.
-/
import Derived.Test.YtimidoaafllnkaaDec
namespace Go.Proofs.Ytimidoaafllnkaa.Iac
open Go.RowKit Base
set_option linter.unusedVariables false

/-- Events with a byte of data more. -/
def layL : List Ev → Int → List Ev
  | [], x => [⟨1, 0, 0, [x]⟩]
  | [e], x => if e.kind = 1 then [{ e with bytes := e.bytes ++ [x] }] else [e, ⟨1, 0, 0, [x]⟩]
  | e :: f :: L, x => e :: layL (f :: L) x
theorem layL_snoc (Q : List Ev) (e : Ev) (x : Int) : layL (Q ++ [e]) x = Q ++ (if e.kind = 1 then [{ e with bytes := e.bytes ++ [x] }] else [e, ⟨1, 0, 0, [x]⟩]) := by
  induction Q with
  | nil => rfl
  | cons a Q ih =>
    cases Q with
    | nil => simp [layL]
    | cons b Q => simp only [List.cons_append, layL] at ih ⊢; rw [ih]
theorem layL_data (Q : List Ev) (e : Ev) (x : Int) (h : e.kind = 1) : layL (Q ++ [e]) x = Q ++ [{ e with bytes := e.bytes ++ [x] }] := by rw [layL_snoc, if_pos h]
theorem layL_other (Q : List Ev) (e : Ev) (x : Int) (h : e.kind ≠ 1) : layL (Q ++ [e]) x = (Q ++ [e]) ++ [⟨1, 0, 0, [x]⟩] := by rw [layL_snoc, if_neg h]; simp
/-- A call that answers events, as new memory from s on. -/
def Fed (s : Nat) (w : World) (L : List Ev) (e : Ending) (w' : World) : Prop := ∃ v P, e = .returned v ∧ EvsOwn s w' v P ∧ P.map (·.1) = L ∧ Turn (fun k => s ≤ k) w w'
def LayMid (s : Nat) (w : World) (L : List Ev) (x : Int) (v : Value) (wx : World) : Prop :=
  ∃ (Q : List EvP) (e : Ev) (u : Value), EvsOwn s wx v (Q ++ [(e, u)]) ∧ e.kind = 1 ∧ L = Q.map (·.1) ++ [{ e with bytes := e.bytes ++ [x] }] ∧ Q.length ≤ 100000 ∧ e.bytes.length ≤ 100000 ∧ Turn (fun k => s ≤ k) w wx
theorem EvsOwn.lastKeep {s : Nat} {w w5 : World} {g n cap : Nat} {Q : List EvP} {e : Ev} {u : Value} {o : Obj} (h : EvsOwn s w (.slice (some ⟨g, 0, none⟩) n cap) (Q ++ [(e, u)])) (hg : (w.alloc o).grownBy w5 u.ownBlock) (hl : g < w.heap.size) : w5.heap[g]? = w.heap[g]? :=
  (hg.block g (by rw [World.size_alloc]; omega) fun ee => ev_ne h.row (h.own (e, u) (by simp)) g rfl ee.symm).trans (Below.heap_alloc _ _ _ hl)
theorem frozen_block {w w' : World} {b : Nat} (h : w'.heap[b]? = w.heap[b]?) (o : Nat) : w'.frozen? ⟨b, o, none⟩ = w.frozen? ⟨b, o, none⟩ := by simp [World.frozen?, h]
theorem bytes_form {s : Nat} {w : World} {v : Value} {n : Nat} {xs : List Value} (h : w.ownsRow s 5 1 v n xs) : ∃ a cap, v = .slice a n cap := by
  rcases h.2 with ⟨rfl, h0⟩ | ⟨g, cap, cur, rfl, _⟩
  · exact ⟨none, 0, by rw [h0]⟩
  · exact ⟨_, _, rfl⟩
theorem ev_cl (w : World) (k c o : Int) (u : Value) : ∀ (j : Nat) (y : Value), ([.int .i64 k, .int .u8 c, .int .u8 o, u] : List Value)[j]? = some y → (w.alloc (.cells #[.int .i64 k, .int .u8 c, .int .u8 o, u] 26)).cell? ((⟨w.heap.size, 0, none⟩ : Addr).add j) = some y := by
  intro j y hy
  match j, hy with
  | 0, hy => simp at hy; subst hy; simp [go_sem, Addr.add]
  | 1, hy => simp at hy; subst hy; simp [go_sem, Addr.add]
  | 2, hy => simp at hy; subst hy; simp [go_sem, Addr.add]
  | 3, hy => simp at hy; subst hy; simp [go_sem, Addr.add]
theorem turn_grown_from {s : Nat} {w w1 : World} {row : Option Nat} {o : Obj} (hg : (w.alloc o).grownBy w1 row) (hs : s ≤ w.heap.size) (hr : ∀ k, row = some k → s ≤ k) : Turn (fun k => s ≤ k) w w1 :=
  (Turn.of_below (below_alloc w o)).grown hg fun k hk => .inr (hr k hk)
theorem EvsOwn.rowFirst {s : Nat} {w : World} {v : Value} {P : List EvP} (h : EvsOwn s w v P) : ∀ k, v.ownBlock = some k → s ≤ k := fun k e => (World.ownsRow.lt h.row k e).1
theorem EvsOwn.lastForm {s : Nat} {w : World} {v : Value} {Q : List EvP} {e : Ev} {u : Value} (h : EvsOwn s w v (Q ++ [(e, u)])) : ∃ g cap, v = .slice (some ⟨g, 0, none⟩) (Q.length + 1) cap := by
  rcases h.slice with ⟨_, h0⟩ | ⟨g, cap, rfl, _⟩
  · simp at h0
  · exact ⟨g, cap, by simp⟩
theorem EvsOwn.lastGet {s : Nat} {w : World} {g cap n : Nat} {Q : List EvP} {e : Ev} {u : Value} (h : EvsOwn s w (.slice (some ⟨g, 0, none⟩) n cap) (Q ++ [(e, u)])) :
    s ≤ g ∧ g < w.heap.size ∧ w.cell? ⟨g, Q.length * 4, none⟩ = some (.int .i64 e.kind) ∧ w.cell? ⟨g, Q.length * 4 + 3, none⟩ = some u ∧ w.frozen? ⟨g, Q.length * 4 + 3, none⟩ = false := by
  obtain ⟨g', cap', e', h1, h2, c0, _, _, c3, f⟩ := h.get (i := Q.length) (p := (e, u)) (by simp)
  obtain rfl := slice_g e'
  exact ⟨h1, h2, c0, c3, f _⟩
set_option maxRecDepth 100000 in
set_option maxHeartbeats 4000000 in
theorem lay_any (s : Nat) (v : Value) (P : List EvP) (x : Int) (w : World) (h : EvsOwn s w v P) (hs : s ≤ w.heap.size) (hl : P.length ≤ 100000) (hb : ∀ p ∈ P, p.1.bytes.length ≤ 100000) :
    Calls Try.prog 121 #[v, .int .u8 x] w (Fed s w (layL (P.map (·.1)) x)) := by
  obtain ⟨i0, hi, hz0, hz1, hz2⟩ := info_parts info_event
  obtain ⟨i1, hi', hy0, hy1, hy2⟩ := info_parts info_byte
  have hz := (zero_of_info (v := .agg #[.int .i64 0, .int .u8 0, .int .u8 0, .slice none 0 0]) (n := 4) (P := Try.prog) (t := 26) (by kernel_rfl)).1
  rcases List.eq_nil_or_concat P with rfl | ⟨Q0, ⟨e0, u0⟩, rfl⟩
  · obtain ⟨a, cap, rfl⟩ := h.form
    have HE := Lib.hid h
    have HCL := Lib.hid (ev_cl w 1 0 0 (.slice none 0 0))
    have hraw : w.ownsRow s 26 4 (.slice a 0 cap) 0 [] := h.row
    rw [show (([] : List EvP).map (·.1)) = [] from rfl, show ([] : List EvP).length = 0 from rfl]
    clear h hb
    go_enter Try.func121, Try.ntmps121
    go_upto_if 18 with fail
    go_cut [0] (fun v1 wx => LayMid s w (layL [] x) x v1 wx)
    case first =>
      go_wp2_with (at_builtin; refine wpList_append_own _ rfl _ _ 22 rfl s 26 i0 (.agg #[.int .i64 0, .int .u8 0, .int .u8 0, .slice none 0 0]) 4 40 Try.underlying22 hi hz0 hz1 hz2 rfl (by decide) _ _ _ rfl (hraw.alloc _) ⟨w.heap.size, 0, none⟩ 1 1 [.int .i64 1, .int .u8 0, .int .u8 0, .slice none 0 0] rfl rfl HCL.out (by simp [Value.oneCell']) (by unfold maxLen; omega) (by omega) (by rw [World.size_alloc]; omega) ?_; intro v' w5 hown' hgrow _)
      go_meet
      case rel =>
        exact ⟨[], ⟨1, 0, 0, []⟩, _, HE.out.grown (OwnBytes.nil _ _) (by simp) hown' hgrow, rfl, rfl, by simp, by simp, turn_grown_from hgrow hs HE.out.rowFirst⟩
    case rest =>
        obtain ⟨Q, e, u, hE, hk, hL, hql, hbl, hT⟩ := hcut
        obtain ⟨g, cap, rfl⟩ := hE.lastForm
        obtain ⟨hsg, hgl, _, c3, f3⟩ := hE.lastGet
        have hu := hE.own (e, u) (by simp)
        have hsw : s ≤ wc.heap.size := by omega
        have c3' := fun o => ((below_alloc wc o).cell (p := ⟨g, Q.length * 4 + 3, none⟩) hgl).trans c3
        have HE2 := Lib.hid hE
        have HT2 := Lib.hid hT
        have HL2 := Lib.hid hL
        have HK2 := Lib.hid hk
        have HU2 := Lib.hid hu
        have HRAW := Lib.hid (show wc.ownsRow s 5 1 u e.bytes.length (e.bytes.map (Value.int .u8)) from hu)
        obtain ⟨q, hq⟩ : ∃ q, q = Q.length := ⟨_, rfl⟩
        rw [← hq] at c3 c3' f3 hql
        obtain ⟨m, hm⟩ : ∃ m, m = e.bytes.length := ⟨_, rfl⟩
        have hraw2 := HRAW.out
        rw [← hm] at hbl hraw2
        have HM := Lib.hid hm
        have HQ := Lib.hid hq
        rw [← hq]
        have c3c := c3
        have c3 := c3' (.cells #[.int .u8 x] 5)
        clear hE hT hL hk hu hq hm c3'
        go_wp2_with (at_builtin; refine wpList_append_own_at _ rfl _ _ 24 rfl s 5 i1 (.int .u8 0) 1 1 Try.underlying24 hi' hy0 hy1 hy2 rfl (by decide) _ _ _ rfl (hraw2.alloc _) ⟨wc.heap.size, 0, none⟩ 1 1 [.int .u8 x] rfl rfl (cell_one_new _ _ _) (by simp [Value.oneCell']) (by unfold maxLen; omega) (by omega) (by rw [World.size_alloc]; omega) ?_; intro v' w5 hown' hgrow _ hat; have hg5 : (wc.alloc (.cells #[.int .u8 x] 5)).grownBy w5 u.ownBlock := hgrow; have hblk := HE2.out.lastKeep hg5 hgl; have c5 := (cell_block hblk (q * 4 + 3)).trans c3c; have f5 := (frozen_block hblk (q * 4 + 3)).trans f3; obtain ⟨va, vc, rfl⟩ := bytes_form hown'; have HG5 := Lib.hid hg5; have HOWN := Lib.hid hown'; have HAT : Hid (Value.ownBlock (.slice va (m + 1) vc) = u.ownBlock ∨ Value.ownBlock (.slice va (m + 1) vc) = some (wc.heap.size + 1)) := (Lib.hid (by have h := hat; rw [World.size_alloc] at h; exact h)); clear hgrow hg5 hblk hat hown')
        go_ret
        obtain ⟨k1, k2⟩ := HE2.out.last (X := [x]) hsw (by have h := HOWN.out; unfold OwnBytes; rw [List.length_append, List.map_append, ← HM.out]; exact h) HG5.out HAT.out
        rw [← HQ.out] at k1 k2
        exact ⟨_, _, rfl, k1, by rw [HL2.out]; simp, HT2.out.trans k2⟩
  · rw [List.concat_eq_append] at h hl hb ⊢
    obtain ⟨g, cap, rfl⟩ := h.lastForm
    obtain ⟨hsg, hgl, c0, _, _⟩ := h.lastGet
    have hql : Q0.length + 1 ≤ 100000 := by simpa using hl
    have hbl := hb (e0, u0) (by simp)
    have HE := Lib.hid h
    have HCL := Lib.hid (ev_cl w 1 0 0 (.slice none 0 0))
    have hraw : w.ownsRow s 26 4 (.slice (some ⟨g, 0, none⟩) (Q0.length + 1) cap) (Q0.length + 1) (evC (Q0 ++ [(e0, u0)])) := by have := h.row; rw [List.length_append, List.length_singleton] at this; exact this
    have hmap : (Q0 ++ [(e0, u0)]).map (·.1) = Q0.map (·.1) ++ [e0] := by simp
    rw [hmap]
    have HMAP := Lib.hid hmap
    obtain ⟨q0, hq0⟩ : ∃ q, q = Q0.length := ⟨_, rfl⟩
    rw [← hq0] at c0 hql hraw HE ⊢
    have HQ0 := Lib.hid hq0
    clear h hb hl hmap hq0
    by_cases hk1 : e0.kind = 1
    · have HK1 := Lib.hid hk1
      rw [hk1] at c0
      obtain ⟨L0, hL0⟩ : ∃ L0, L0 = layL (Q0.map (·.1) ++ [e0]) x := ⟨_, rfl⟩
      rw [← hL0]
      have HL0 := Lib.hid hL0
      clear hk1 hL0 hraw HCL
      go_enter Try.func121, Try.ntmps121
      go_upto_if 18 with fail
      go_cut [0] (fun v1 wx => LayMid s w L0 x v1 wx)
      case first =>
        go_wp2_with fail
        go_meet
        case rel =>
          exact ⟨Q0, e0, u0, HE.out, HK1.out, by rw [HL0.out, layL_data _ _ _ HK1.out], by have := HQ0.out; omega, hbl, Turn.refl _ _⟩
      case rest =>
        obtain ⟨Q, e, u, hE, hk, hL, hql, hbl, hT⟩ := hcut
        obtain ⟨g, cap, rfl⟩ := hE.lastForm
        obtain ⟨hsg, hgl, _, c3, f3⟩ := hE.lastGet
        have hu := hE.own (e, u) (by simp)
        have hsw : s ≤ wc.heap.size := by omega
        have c3' := fun o => ((below_alloc wc o).cell (p := ⟨g, Q.length * 4 + 3, none⟩) hgl).trans c3
        have HE2 := Lib.hid hE
        have HT2 := Lib.hid hT
        have HL2 := Lib.hid hL
        have HK2 := Lib.hid hk
        have HU2 := Lib.hid hu
        have HRAW := Lib.hid (show wc.ownsRow s 5 1 u e.bytes.length (e.bytes.map (Value.int .u8)) from hu)
        obtain ⟨q, hq⟩ : ∃ q, q = Q.length := ⟨_, rfl⟩
        rw [← hq] at c3 c3' f3 hql
        obtain ⟨m, hm⟩ : ∃ m, m = e.bytes.length := ⟨_, rfl⟩
        have hraw2 := HRAW.out
        rw [← hm] at hbl hraw2
        have HM := Lib.hid hm
        have HQ := Lib.hid hq
        rw [← hq]
        have c3c := c3
        have c3 := c3' (.cells #[.int .u8 x] 5)
        clear hE hT hL hk hu hq hm c3'
        go_wp2_with (at_builtin; refine wpList_append_own_at _ rfl _ _ 24 rfl s 5 i1 (.int .u8 0) 1 1 Try.underlying24 hi' hy0 hy1 hy2 rfl (by decide) _ _ _ rfl (hraw2.alloc _) ⟨wc.heap.size, 0, none⟩ 1 1 [.int .u8 x] rfl rfl (cell_one_new _ _ _) (by simp [Value.oneCell']) (by unfold maxLen; omega) (by omega) (by rw [World.size_alloc]; omega) ?_; intro v' w5 hown' hgrow _ hat; have hg5 : (wc.alloc (.cells #[.int .u8 x] 5)).grownBy w5 u.ownBlock := hgrow; have hblk := HE2.out.lastKeep hg5 hgl; have c5 := (cell_block hblk (q * 4 + 3)).trans c3c; have f5 := (frozen_block hblk (q * 4 + 3)).trans f3; obtain ⟨va, vc, rfl⟩ := bytes_form hown'; have HG5 := Lib.hid hg5; have HOWN := Lib.hid hown'; have HAT : Hid (Value.ownBlock (.slice va (m + 1) vc) = u.ownBlock ∨ Value.ownBlock (.slice va (m + 1) vc) = some (wc.heap.size + 1)) := (Lib.hid (by have h := hat; rw [World.size_alloc] at h; exact h)); clear hgrow hg5 hblk hat hown')
        go_ret
        obtain ⟨k1, k2⟩ := HE2.out.last (X := [x]) hsw (by have h := HOWN.out; unfold OwnBytes; rw [List.length_append, List.map_append, ← HM.out]; exact h) HG5.out HAT.out
        rw [← HQ.out] at k1 k2
        exact ⟨_, _, rfl, k1, by rw [HL2.out]; simp, HT2.out.trans k2⟩
    · have hk2 : (e0.kind != 1) = true := by simpa using hk1
      have HK1 := Lib.hid hk1
      obtain ⟨L0, hL0⟩ : ∃ L0, L0 = layL (Q0.map (·.1) ++ [e0]) x := ⟨_, rfl⟩
      rw [← hL0]
      have HL0 := Lib.hid hL0
      clear hk1 hL0
      go_enter Try.func121, Try.ntmps121
      go_upto_if 18 with fail
      go_cut [0] (fun v1 wx => LayMid s w L0 x v1 wx)
      case first =>
        go_wp2_with (at_builtin; refine wpList_append_own _ rfl _ _ 22 rfl s 26 i0 (.agg #[.int .i64 0, .int .u8 0, .int .u8 0, .slice none 0 0]) 4 40 Try.underlying22 hi hz0 hz1 hz2 rfl (by decide) _ _ _ rfl (hraw.alloc _) ⟨w.heap.size, 0, none⟩ 1 1 [.int .i64 1, .int .u8 0, .int .u8 0, .slice none 0 0] rfl rfl HCL.out (by simp [Value.oneCell']) (by unfold maxLen; omega) (by omega) (by rw [World.size_alloc]; omega) ?_; intro v' w5 hown' hgrow _)
        go_meet
        case rel =>
          exact ⟨Q0 ++ [(e0, u0)], ⟨1, 0, 0, []⟩, _, HE.out.grown (OwnBytes.nil _ _) (fun p hp => Apart.none) (by rw [List.length_append, List.length_singleton, ← HQ0.out]; exact hown') hgrow, rfl, by rw [HL0.out, layL_other _ _ _ HK1.out, HMAP.out]; rfl, by rw [List.length_append, List.length_singleton, ← HQ0.out]; exact hql, by simp, turn_grown_from hgrow hs HE.out.rowFirst⟩
      case rest =>
        obtain ⟨Q, e, u, hE, hk, hL, hql, hbl, hT⟩ := hcut
        obtain ⟨g, cap, rfl⟩ := hE.lastForm
        obtain ⟨hsg, hgl, _, c3, f3⟩ := hE.lastGet
        have hu := hE.own (e, u) (by simp)
        have hsw : s ≤ wc.heap.size := by omega
        have c3' := fun o => ((below_alloc wc o).cell (p := ⟨g, Q.length * 4 + 3, none⟩) hgl).trans c3
        have HE2 := Lib.hid hE
        have HT2 := Lib.hid hT
        have HL2 := Lib.hid hL
        have HK2 := Lib.hid hk
        have HU2 := Lib.hid hu
        have HRAW := Lib.hid (show wc.ownsRow s 5 1 u e.bytes.length (e.bytes.map (Value.int .u8)) from hu)
        obtain ⟨q, hq⟩ : ∃ q, q = Q.length := ⟨_, rfl⟩
        rw [← hq] at c3 c3' f3 hql
        obtain ⟨m, hm⟩ : ∃ m, m = e.bytes.length := ⟨_, rfl⟩
        have hraw2 := HRAW.out
        rw [← hm] at hbl hraw2
        have HM := Lib.hid hm
        have HQ := Lib.hid hq
        rw [← hq]
        have c3c := c3
        have c3 := c3' (.cells #[.int .u8 x] 5)
        clear hE hT hL hk hu hq hm c3'
        go_wp2_with (at_builtin; refine wpList_append_own_at _ rfl _ _ 24 rfl s 5 i1 (.int .u8 0) 1 1 Try.underlying24 hi' hy0 hy1 hy2 rfl (by decide) _ _ _ rfl (hraw2.alloc _) ⟨wc.heap.size, 0, none⟩ 1 1 [.int .u8 x] rfl rfl (cell_one_new _ _ _) (by simp [Value.oneCell']) (by unfold maxLen; omega) (by omega) (by rw [World.size_alloc]; omega) ?_; intro v' w5 hown' hgrow _ hat; have hg5 : (wc.alloc (.cells #[.int .u8 x] 5)).grownBy w5 u.ownBlock := hgrow; have hblk := HE2.out.lastKeep hg5 hgl; have c5 := (cell_block hblk (q * 4 + 3)).trans c3c; have f5 := (frozen_block hblk (q * 4 + 3)).trans f3; obtain ⟨va, vc, rfl⟩ := bytes_form hown'; have HG5 := Lib.hid hg5; have HOWN := Lib.hid hown'; have HAT : Hid (Value.ownBlock (.slice va (m + 1) vc) = u.ownBlock ∨ Value.ownBlock (.slice va (m + 1) vc) = some (wc.heap.size + 1)) := (Lib.hid (by have h := hat; rw [World.size_alloc] at h; exact h)); clear hgrow hg5 hblk hat hown')
        go_ret
        obtain ⟨k1, k2⟩ := HE2.out.last (X := [x]) hsw (by have h := HOWN.out; unfold OwnBytes; rw [List.length_append, List.map_append, ← HM.out]; exact h) HG5.out HAT.out
        rw [← HQ.out] at k1 k2
        exact ⟨_, _, rfl, k1, by rw [HL2.out]; simp, HT2.out.trans k2⟩
end Go.Proofs.Ytimidoaafllnkaa.Iac
