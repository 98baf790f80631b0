/-
  The statements' 'as' and the reference's comparison of events.
-/
import Derived.Test.YtimidoaafllnkaaIacAliveA
import Derived.Test.YtimidoaafllnkaaSame
namespace Go.Proofs.Ytimidoaafllnkaa.Iac
open Go.RowKit Base
set_option linter.unusedVariables false

theorem same_true (u v : Value) (A : List Int) (w : World) (hA : RowOf .u8 w u A) (hB : RowOf .u8 w v A) (hm : A.length ≤ maxLen) : Calls Try.prog 11 #[u, v] w fun e w' => e = .returned (.bool true) ∧ ∃ n, w' = w.drewN n := by
  have := same_any u v A A w hA hB hm
  simpa using this
theorem same_at {w : World} {n : Nat} {u v : Value} {A : List Int} (hA : RowOf .u8 w u A) (hB : RowOf .u8 w v A) (hm : A.length ≤ maxLen) : Calls Try.prog 11 #[u, v] (w.drewN n) fun e w' => e = .returned (.bool true) ∧ ∃ m, w' = w.drewN m :=
  Calls.quiet_of (same_true u v A (w.drewN n) (hA.kept fun _ _ _ h => h) (hB.kept fun _ _ _ h => h) hm)
theorem info_revent : (Try.prog.info? 32).map (fun i => (i.zero, i.size, i.bytes)) = some (some (.agg #[.int .i64 0, .int .u8 0, .int .u8 0, .slice none 0 0]), 4, 40) := by kernel_rfl
theorem EvsAt.below {w w' : World} {v : Value} {L : List Ev} (h : EvsAt w v L) (t : Below w.heap.size w w') : EvsAt w' v L := by
  obtain ⟨a, cap, rfl, hr⟩ := h
  refine ⟨a, cap, rfl, fun hne => ?_⟩
  obtain ⟨g, off, rfl, hg, hc⟩ := hr hne
  refine ⟨g, off, rfl, Nat.lt_of_lt_of_le hg t.size, fun i e hi => ?_⟩
  obtain ⟨u, c0, c1, c2, c3, hu⟩ := hc i e hi
  exact ⟨u, (t.cell (p := ⟨g, _, none⟩) hg).trans c0, (t.cell (p := ⟨g, _, none⟩) hg).trans c1, (t.cell (p := ⟨g, _, none⟩) hg).trans c2, (t.cell (p := ⟨g, _, none⟩) hg).trans c3, hu.below t⟩
theorem EvsAt.drewN {w : World} {v : Value} {L : List Ev} (h : EvsAt w v L) (n : Nat) : EvsAt (w.drewN n) v L := h.below ⟨rfl, rfl, rfl, Nat.le_refl _, fun _ _ => rfl⟩
/-- A row of the reference's events, of the call's own, whose bytes lie anywhere. -/
def RevOwn (s : Nat) (w : World) (v : Value) (P : List EvP) : Prop := w.ownsRow s 32 4 v P.length (evC P) ∧ ∀ p ∈ P, RowOf .u8 w p.2 p.1.bytes
theorem RevOwn.evsAt {s : Nat} {w : World} {v : Value} {P : List EvP} (h : RevOwn s w v P) : EvsAt w v (P.map (·.1)) := by
  obtain ⟨hr, hb⟩ := h
  rcases hr.2 with ⟨rfl, h0⟩ | ⟨g, cap, cur, rfl, hg, hgb, _⟩
  · exact ⟨none, 0, by simp [h0], fun hne => absurd (by simpa using h0) hne⟩
  · refine ⟨_, cap, by simp, fun _ => ⟨g, 0, rfl, lt_of_block hgb, fun i e hi => ?_⟩⟩
    rw [List.getElem?_map] at hi
    obtain ⟨p, hp, rfl⟩ := Option.map_eq_some_iff.1 hi
    obtain ⟨a0, a1, a2, a3⟩ := evC_get P i p hp
    obtain ⟨hlt, _⟩ := List.getElem?_eq_some_iff.1 hp
    rw [Nat.zero_add]
    exact ⟨p.2, (hr.cellAt _ (by omega)).trans a0, (hr.cellAt _ (by omega)).trans a1, (hr.cellAt _ (by omega)).trans a2, (hr.cellAt _ (by omega)).trans a3, hb p (List.mem_of_getElem? hp)⟩
theorem rev_cl (w : World) (k c o : Int) (u : Value) : ∀ (j : Nat) (y : Value), ([.int .i64 k, .int .u8 c, .int .u8 o, u] : List Value)[j]? = some y → (w.alloc (.cells #[.int .i64 k, .int .u8 c, .int .u8 o, u] 32)).cell? ((⟨w.heap.size, 0, none⟩ : Addr).add j) = some y := by
  intro j y hy
  match j, hy with
  | 0, hy => simp at hy; subst hy; simp [go_sem, Addr.add]
  | 1, hy => simp at hy; subst hy; simp [go_sem, Addr.add]
  | 2, hy => simp at hy; subst hy; simp [go_sem, Addr.add]
  | 3, hy => simp at hy; subst hy; simp [go_sem, Addr.add]
theorem row_first {s : Nat} {w : World} {e : TypeId} {z n : Nat} {v : Value} {xs : List Value} (h : w.ownsRow s e z v n xs) : ∀ k, v.ownBlock = some k → s ≤ k := fun k e => (World.ownsRow.lt h k e).1
theorem row_form {s : Nat} {w : World} {e : TypeId} {z n : Nat} {v : Value} {xs : List Value} (h : w.ownsRow s e z v n xs) : ∃ a cap, v = .slice a n cap := by
  rcases h.2 with ⟨rfl, h0⟩ | ⟨g, cap, cur, rfl, _⟩
  · exact ⟨none, 0, by rw [h0]⟩
  · exact ⟨_, _, rfl⟩
def AsRel (L : List Ev) (n s : Nat) (w : World) (v i : Value) (wr : World) : Prop :=
  ∃ (k : Nat) (P : List EvP), k ≤ n ∧ i = .int .i64 k ∧ wr.ownsRow s 32 4 v P.length (evC P) ∧ (∀ p ∈ P, RowOf .u8 w p.2 p.1.bytes) ∧ P.map (·.1) = L.take k ∧ Below s w wr
theorem rev0 {s : Nat} {w : World} (h : s ≤ w.heap.size) : (w.alloc (.cells #[] 32)).ownsRow s 32 4 (.slice (some ⟨w.heap.size, 0, none⟩) 0 0) 0 [] :=
  ⟨rfl, .inr ⟨w.heap.size, 0, #[], rfl, h, heap_alloc_new w _, by simp, by simp [maxLen], rfl, by simp⟩⟩
set_option maxRecDepth 100000 in
set_option maxHeartbeats 2000000 in
theorem as_any (v : Value) (L : List Ev) (w : World) (h : EvsAt w v L) (hm : L.length ≤ 100000) :
    Calls Try.prog 18 #[v] w fun e w' => ∃ v', e = .returned v' ∧ EvsAt w' v' L ∧ Below w.heap.size w w' := by
  obtain ⟨i0, hi, hz0, hz1, hz2⟩ := info_parts info_revent
  obtain ⟨s, hs⟩ : ∃ s, s = w.heap.size := ⟨_, rfl⟩
  rw [← hs]
  obtain ⟨a, cap, rfl, hrow⟩ := h
  obtain ⟨n, hn⟩ : ∃ n, n = L.length := ⟨_, rfl⟩
  rw [← hn] at hm ⊢
  have HN := Lib.hid hn
  have HR := Lib.hid hrow
  have HS := Lib.hid hs
  have H0 := Lib.hid (rev0 (s := s) (w := w) (by omega))
  have HB0 := Lib.hid (below_alloc w (.cells #[] 32))
  clear hn hrow hs
  go_enter Try.func18, Try.ntmps18
  go_wp2_with fail
  go_loopw [3, 9] (fun v i wr => AsRel L n s w v i wr) (fun _ i _ => n - (intOf i).toNat)
  case atStart => exact ⟨0, [], by omega, rfl, H0.out, by simp, by simp, by rw [HS.out]; exact HB0.out⟩
  case round =>
    obtain ⟨k, P, hk, rfl, hE, hB, hP, hold⟩ := hrel
    have hsz : s ≤ wr.heap.size := by have := hold.size; have := HS.out; omega
    by_cases hkn : k < n
    · have hkl : k < L.length := by rw [← HN.out]; exact hkn
      obtain ⟨g, off, rfl, hgl, hc⟩ := HR.out (by intro e; rw [e] at hkl; simp at hkl)
      obtain ⟨q, hq⟩ : ∃ q, L[k]? = some q := ⟨_, List.getElem?_eq_getElem hkl⟩
      have htk : L.take (k + 1) = L.take k ++ [q] := by
        rw [List.take_succ_eq_append_getElem hkl]
        obtain ⟨_, e⟩ := List.getElem?_eq_some_iff.1 hq
        rw [e]
      obtain ⟨u, d0, d1, d2, d3, hu⟩ := hc k q hq
      have hgs : g < s := by rw [HS.out]; exact hgl
      have d0 := (hold.cell (p := ⟨g, off + k * 4, none⟩) hgs).trans d0
      have d1 := (hold.cell (p := ⟨g, off + k * 4 + 1, none⟩) hgs).trans d1
      have d2 := (hold.cell (p := ⟨g, off + k * 4 + 2, none⟩) hgs).trans d2
      have d3 := (hold.cell (p := ⟨g, off + k * 4 + 3, none⟩) hgs).trans d3
      have hpl : P.length ≤ k := by
        have : P.length = (L.take k).length := by rw [← hP, List.length_map]
        rw [this, List.length_take]; omega
      have HU := Lib.hid hu
      obtain ⟨ua, ul, uc, rfl⟩ : ∃ ua ul uc, u = .slice ua ul uc := by
        obtain ⟨a', c', e', _⟩ := hu
        exact ⟨a', _, c', e'⟩
      have hb1 := below_alloc wr (.cells #[.int .i64 q.kind, .int .u8 q.code, .int .u8 q.option, .slice ua ul uc] 26)
      have hraw := hE.alloc (.cells #[.int .i64 q.kind, .int .u8 q.code, .int .u8 q.option, .slice ua ul uc] 26)
      obtain ⟨W1, hW1⟩ : ∃ W1, W1 = wr.alloc (.cells #[.int .i64 q.kind, .int .u8 q.code, .int .u8 q.option, .slice ua ul uc] 26) := ⟨_, rfl⟩
      have hblk : W1.heap[wr.heap.size]? = some (.cells #[.int .i64 q.kind, .int .u8 q.code, .int .u8 q.option, .slice ua ul uc] 26 (0, 0)) := by rw [hW1]; exact heap_alloc_new wr _
      rw [← hW1] at hb1 hraw
      have hs1 : s ≤ W1.heap.size := by have := hb1.size; omega
      have HW1 := Lib.hid hW1.symm
      have HTK := Lib.hid htk
      have HP := Lib.hid hP
      have HB := Lib.hid hB
      have HBW := Lib.hid (hold.trans (hb1.mono hsz))
      have HCL := Lib.hid (rev_cl W1 q.kind q.code q.option (.slice ua ul uc))
      have HRF := Lib.hid (row_first hE)
      obtain ⟨va, vc, rfl⟩ := row_form hE
      obtain ⟨pl, hpl2⟩ : ∃ pl, pl = P.length := ⟨_, rfl⟩
      rw [← hpl2] at hpl hraw HRF
      have HPL := Lib.hid hpl2
      rw [← hpl2]
      obtain ⟨⟨b0, b1, b2, b3⟩, _⟩ := boxed_facts hblk
      clear hW1 htk hP hB hold hE hc hkl hgl hq hu hgs hpl2 hb1 hblk
      go_upto_region 5 with fail
      rw [HW1.out]
      go_wp2_with (at_builtin; refine wpList_append_own _ rfl _ _ 33 rfl s 32 i0 (.agg #[.int .i64 0, .int .u8 0, .int .u8 0, .slice none 0 0]) 4 40 Try.underlying33 hi hz0 hz1 hz2 rfl (by decide) _ _ _ rfl (hraw.alloc _) ⟨W1.heap.size, 0, none⟩ 1 1 [.int .i64 q.kind, .int .u8 q.code, .int .u8 q.option, .slice ua ul uc] rfl rfl HCL.out (by simp [Value.oneCell']) (by unfold maxLen; omega) (by omega) (by rw [World.size_alloc]; omega) ?_; intro v' w5 hown' hgrow _)
      go_roundw
      case rel =>
        refine ⟨k + 1, P ++ [(q, .slice ua ul uc)], by omega, by go_num, ?_, fun p hp => ?_, by rw [HTK.out, List.map_append, HP.out]; rfl, ?_⟩
        · rw [List.length_append, evC_append, ← HPL.out]; exact hown'
        · rcases List.mem_append.1 hp with hp | hp
          · exact HB.out p hp
          · rw [List.mem_singleton.1 hp]; exact HU.out
        · exact (HBW.out.alloc hs1 _).grown hgrow (by rw [World.size_alloc]; omega) HRF.out
      case measure => simp [intOf]; omega
    · obtain rfl : n = k := by omega
      rw [List.take_of_length_le (by rw [← HN.out]; exact Nat.le_refl _)] at hP
      have hfin := RevOwn.evsAt (show RevOwn s wr _ P from ⟨hE, fun p hp => (hB p hp).below (by have := hold; rw [HS.out] at this; exact this)⟩)
      rw [hP] at hfin
      have HF := Lib.hid hfin
      have HO := Lib.hid hold
      clear hP hE hold hfin hB
      go_wp2_with fail
      go_ret
      exact ⟨_, rfl, HF.out, HO.out⟩
set_option maxRecDepth 100000 in
set_option maxHeartbeats 2000000 in
/-- The same events are the same. -/
theorem same5_true (u v : Value) (L : List Ev) (w : World) (hu : EvsAt w u L) (hv : EvsAt w v L) (hm : L.length ≤ 100000) (hb : ∀ e ∈ L, e.bytes.length ≤ 1000000) :
    Calls Try.prog 19 #[u, v] w fun e w' => e = .returned (.bool true) ∧ ∃ n, w' = w.drewN n := by
  obtain ⟨a, cap, rfl, hra⟩ := hu
  obtain ⟨b, cap', rfl, hrb⟩ := hv
  obtain ⟨n, hn⟩ : ∃ n, n = L.length := ⟨_, rfl⟩
  rw [← hn] at hm ⊢
  have HN := Lib.hid hn
  have HA := Lib.hid hra
  have HB := Lib.hid hrb
  have HBD := Lib.hid hb
  clear hn hra hrb hb
  go_enter Try.func19, Try.ntmps19
  go_wp2_with fail
  go_loopw [5] (fun i wr => ∃ k j : Nat, k ≤ n ∧ i = .int .i64 k ∧ wr = w.drewN j) (fun i _ => n - (intOf i).toNat)
  case atStart => exact ⟨0, 0, by omega, rfl, rfl⟩
  case round =>
    obtain ⟨k, j, hk, rfl, hwr⟩ := hrel
    by_cases hkn : k < n
    · have hkl : k < L.length := by rw [← HN.out]; exact hkn
      have hne : L ≠ [] := by intro e; rw [e] at hkl; simp at hkl
      obtain ⟨g, off, rfl, _, hca⟩ := HA.out hne
      obtain ⟨g', off', rfl, _, hcb⟩ := HB.out hne
      obtain ⟨q, hq⟩ : ∃ q, L[k]? = some q := ⟨_, List.getElem?_eq_getElem hkl⟩
      obtain ⟨x, a0, a1, a2, a3, hx⟩ := hca k q hq
      obtain ⟨y, b0, b1, b2, b3, hy⟩ := hcb k q hq
      have hdr : ∀ p, wr.cell? p = w.cell? p := fun p => by rw [hwr]; rfl
      have a0 := (hdr _).trans a0
      have a1 := (hdr _).trans a1
      have a2 := (hdr _).trans a2
      have a3 := (hdr _).trans a3
      have b0 := (hdr _).trans b0
      have b1 := (hdr _).trans b1
      have b2 := (hdr _).trans b2
      have b3 := (hdr _).trans b3
      have hx' : RowOf .u8 wr x q.bytes := hx.kept fun _ _ _ h => (hdr _).trans h
      have hy' : RowOf .u8 wr y q.bytes := hy.kept fun _ _ _ h => (hdr _).trans h
      have hl : q.bytes.length ≤ maxLen := by have := HBD.out q (List.mem_of_getElem? hq); unfold maxLen; omega
      have HX := Lib.hid hx'
      have HY := Lib.hid hy'
      have HL := Lib.hid hl
      have HW := Lib.hid hwr
      have t0 : (q.kind != q.kind) = false := by simp
      have t1 : (q.code != q.code) = false := by simp
      have t2 : (q.option != q.option) = false := by simp
      have ik : (0 : Int) ≤ (k : Int) := Int.natCast_nonneg _
      have ikn : (k : Int) < (n : Int) := by omega
      clear hca hcb hq hx hy hx' hy' hl hdr hwr hkl hne
      go_wp2_with fail
      go_quiet (first
        | (go_at_call 11; exact same_at HX.out HY.out HL.out))
      go_wp2_with fail
      go_roundw
      case rel => exact ⟨k + 1, j + nq, by omega, by go_num, by rw [HW.out, World.drewN_drewN]⟩
      case measure => simp [intOf]; omega
    · obtain rfl : n = k := by omega
      have HW := Lib.hid hwr
      clear hwr
      go_wp2_with fail
      go_ret
      exact ⟨rfl, j, HW.out⟩
end Go.Proofs.Ytimidoaafllnkaa.Iac
