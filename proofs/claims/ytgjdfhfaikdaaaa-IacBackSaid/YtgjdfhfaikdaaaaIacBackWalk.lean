/-
  The walk of IacBack.
-/
import Derived.Test.YtgjdfhfaikdaaaaPlainA
import Derived.Test.YtgjdfhfaikdaaaaIacCutsWalk
import Derived.Test.YtgjdfhfaikdaaaaOpenF
namespace Go.Proofs.Ytgjdfhfaikdaaaa.Iac
open Go.RowKit Base
set_option linter.unusedVariables false

theorem written_le (e : Ev) : (writtenL e).length ≤ 2 * e.bytes.length + 8 := by
  have h1 := escL_le e.bytes
  have h2 := escL_le [e.option]
  unfold writtenL
  split
  · omega
  · split
    · simp
    · split
      · simp
      · split
        · simp
        · split
          · simp only [tellL, List.length_append, List.length_cons, List.length_nil] at h2 ⊢; omega
          · split
            · simp only [tellL, List.length_append, List.length_cons, List.length_nil] at h2 ⊢; omega
            · simp
theorem writeL_le (L : List Ev) : (writeL L).length ≤ 2 * totE L + 8 * L.length := by
  induction L with
  | nil => simp [writeL]
  | cons e L ih =>
    have h1 : writeL (e :: L) = writtenL e ++ writeL L := by simp [writeL]
    have h2 : totE (e :: L) = e.bytes.length + totE L := by simp [totE]
    have h3 := written_le e
    rw [h1, List.length_append, List.length_cons, h2]
    omega
theorem totE_le (L : List Ev) (m : Nat) (h : ∀ e ∈ L, e.bytes.length ≤ m) : totE L ≤ m * L.length := by
  induction L with
  | nil => simp [totE]
  | cons e L ih =>
    have h2 : totE (e :: L) = e.bytes.length + totE L := by simp [totE]
    have h3 := ih fun f hf => h f (by simp [hf])
    have h4 := h e (by simp)
    rw [h2, List.length_cons, Nat.mul_add]
    omega
theorem lay_len (J : List Ev) (X : List Int) : (X.foldl layL J).length ≤ J.length + 1 := by
  cases X with
  | nil => simp
  | cons x X =>
    rw [List.foldl_cons]
    rcases List.eq_nil_or_concat J with rfl | ⟨Q, e, rfl⟩
    · have := lay_data X [x] [] ⟨1, 0, 0, []⟩ rfl
      simp only [List.nil_append] at this
      rw [show layL [] x = [⟨1, 0, 0, [x]⟩] from rfl, this]
      simp
    · rw [List.concat_eq_append]
      by_cases hk : e.kind = 1
      · rw [layL_data _ _ _ hk, lay_data X (e.bytes ++ [x]) Q e hk]
        simp
      · rw [layL_other _ _ _ hk, lay_data X [x] (Q ++ [e]) ⟨1, 0, 0, []⟩ rfl]
        simp
theorem back_len : ∀ (L : List Ev) (D : Dec) (J : List Ev), D.state = 0 → (∀ e ∈ L, Plain e) → (foldF (D, J) (writeL L)).2.length ≤ J.length + L.length := by
  intro L
  induction L with
  | nil => intro D J _ _; simp [writeL, foldF]
  | cons e L ih =>
    intro D J h hp
    have hw : writeL (e :: L) = writtenL e ++ writeL L := by simp [writeL]
    rw [hw, foldF_append]
    obtain ⟨h1, h2⟩ := fold_plain D J e h (hp e (by simp))
    have h3 : (foldF (D, J) (writtenL e)).2.length ≤ J.length + 1 := by
      rw [h2]
      split
      · exact lay_len J e.bytes
      · simp
    have := ih (foldF (D, J) (writtenL e)).1 (foldF (D, J) (writtenL e)).2 h1 fun f hf => hp f (by simp [hf])
    rw [List.length_cons]
    show (foldF ((foldF (D, J) (writtenL e)).1, (foldF (D, J) (writtenL e)).2) (writeL L)).2.length ≤ _
    omega
/-- The events that may be, so far. -/
structure BR (s : Nat) (W1 : World) (may : Value) (P : List EvP) (k : Nat) (wr : World) : Prop where
  row : wr.ownsRow s 38 4 may P.length (evC P)
  plain : ∀ p ∈ P, Plain p.1 ∧ RowOf .u8 W1 p.2 p.1.bytes ∧ p.1.bytes.length ≤ 256
  len : P.length ≤ k
  old : Below s W1 wr
def BackRel (s : Nat) (W1 : World) (n : Nat) (may i : Value) (wr : World) : Prop := ∃ (k : Nat) (P : List EvP), k ≤ n ∧ i = .int .i64 k ∧ BR s W1 may P k wr
theorem BR.evsAt {s : Nat} {W1 wr : World} {may : Value} {P : List EvP} {k : Nat} (h : BR s W1 may P k wr) (hs : s = W1.heap.size) : EvsAt wr may (P.map (·.1)) := by
  rcases h.row.2 with ⟨rfl, h0⟩ | ⟨g, cap, cur, rfl, hg, hgb, _⟩
  · exact ⟨none, 0, by simp [h0], fun hne => absurd (by simpa using h0) hne⟩
  · refine ⟨_, cap, by simp, fun _ => ⟨g, 0, rfl, lt_of_block hgb, fun i e hi => ?_⟩⟩
    rw [List.getElem?_map] at hi
    obtain ⟨p, hp, rfl⟩ := Option.map_eq_some_iff.1 hi
    obtain ⟨a0, a1, a2, a3⟩ := evC_get P i p hp
    obtain ⟨hlt, _⟩ := List.getElem?_eq_some_iff.1 hp
    have hr := h.row
    rw [Nat.zero_add]
    exact ⟨p.2, (hr.cellAt _ (by omega)).trans a0, (hr.cellAt _ (by omega)).trans a1, (hr.cellAt _ (by omega)).trans a2, (hr.cellAt _ (by omega)).trans a3, ((h.plain p (List.mem_of_getElem? hp)).2.1).below (by rw [← hs]; exact h.old)⟩
def LongRel (G : List Ev) (n : Nat) (W : World) (i : Value) (wr : World) : Prop := ∃ k : Nat, k ≤ n ∧ i = .int .i64 k ∧ (∀ e ∈ G.take k, e.kind ≠ 6 ∧ e.kind ≠ 7) ∧ Below W.heap.size W wr
set_option maxRecDepth 100000 in
set_option maxHeartbeats 4000000 in
theorem iacBack_law (HAL : Alive5) {w : World} (v : Value) (E : List Ev) (hE : EvsAt w v E ∧ E.length ≤ maxLen ∧ ∀ p ∈ E, Open.EvOk p) (z : Value) (L : List Int) (hL : Open.BytesAt w z L ∧ L.length ≤ maxLen ∧ ∀ n ∈ L, Open.Byte n) :
    Calls Try.prog 5 #[v, z] w fun e W' => e = .returned (.bool true) ∧ Below w.heap.size w W' := by
  obtain ⟨i0, hi, hz0, hz1, hz2⟩ := info_parts info_event
  obtain ⟨hev, hel, _⟩ := hE
  obtain ⟨⟨hr, av, cv, hv, _⟩, hl, hby⟩ := hL
  have hzd := (zero_of_info info_dec).1
  have hz := (zero_of_info (v := .agg #[.int .i64 0, .int .u8 0, .int .u8 0, .slice none 0 0]) (n := 4) (P := Try.prog) (t := 38) (by kernel_rfl)).1
  have HR := Lib.hid hr
  have HBY := Lib.hid hby
  subst hv
  obtain ⟨ae, ce, rfl, hrow⟩ := hev
  obtain ⟨n, hn⟩ : ∃ n, n = E.length := ⟨_, rfl⟩
  obtain ⟨m, hm⟩ : ∃ m, m = L.length := ⟨_, rfl⟩
  have HN := Lib.hid hn
  have HM := Lib.hid hm
  have HROW := Lib.hid hrow
  unfold maxLen at hl hel
  rw [← hm] at HR hl ⊢
  rw [← hn] at hel ⊢
  clear hn hm hrow hr hby
  by_cases hbig : 60 < n
  · have hbig' : (60 : Int) < n := by omega
    clear HR HROW
    go_enter Try.func5, Try.ntmps5
    go_wp2_with fail
    refine (HAL w).mono ?_
    rintro e W1 ⟨rfl, b1⟩
    go_wp2
    go_ret
    exact ⟨rfl, b1⟩
  have hsm : (n : Int) ≤ 60 := by omega
  by_cases hbm : 2000 < m
  · have hbm' : (2000 : Int) < m := by omega
    clear HR HROW
    go_enter Try.func5, Try.ntmps5
    go_wp2_with fail
    refine (HAL w).mono ?_
    rintro e W1 ⟨rfl, b1⟩
    go_wp2
    go_ret
    exact ⟨rfl, b1⟩
  have hsm2 : (m : Int) ≤ 2000 := by omega
  clear hbig hbm
  go_enter Try.func5, Try.ntmps5
  go_wp2_with fail
  refine (HAL w).mono ?_
  rintro e W1 ⟨rfl, b1⟩
  obtain ⟨s, hs⟩ : ∃ s, s = W1.heap.size := ⟨_, rfl⟩
  have hws : w.heap.size ≤ s := by rw [hs]; exact b1.size
  have hp6 := parts0 (s := s) (w := W1) (by omega)
  have hb6 := below_alloc W1 (.cells #[] 38)
  rw [← hs] at hb6
  obtain ⟨W2, hW2⟩ : ∃ W2, W2 = W1.alloc (.cells #[] 38) := ⟨_, rfl⟩
  rw [← hW2] at hp6 hb6
  rw [← hs] at hp6
  have HB1 := Lib.hid b1
  have HP6 := Lib.hid hp6.row
  have HB6 := Lib.hid hb6
  have HS := Lib.hid hs
  have HSS := Lib.hid hs.symm
  have HW2 := Lib.hid hW2.symm
  clear b1 hp6 hb6 hs hW2
  go_wp2_with fail
  rw [HSS.out, HW2.out]
  go_loopw [5, 29] (fun may i wr => BackRel s W1 n may i wr) (fun _ i _ => n - (intOf i).toNat)
  case atStart => exact ⟨0, [], by omega, rfl, HP6.out, by simp, by simp, HB6.out⟩
  case round =>
    obtain ⟨k, P, hk, rfl, hB⟩ := hrel
    have hsz : s ≤ wr.heap.size := by have := hB.old.size; have := HS.out; omega
    have hbw : Below w.heap.size w wr := HB1.out.trans (hB.old.mono hws)
    have HB := Lib.hid hB
    have HBW := Lib.hid hbw
    have hpl : P.length ≤ k := hB.len
    obtain ⟨pa, pc, rfl⟩ := row_form hB.row
    obtain ⟨pl, hpl2⟩ : ∃ pl, pl = P.length := ⟨_, rfl⟩
    rw [← hpl2] at hpl HB
    have HPL := Lib.hid hpl2
    rw [← hpl2]
    clear hB hbw hpl2
    by_cases hkn : k < n
    · have hkl : k < E.length := by rw [← HN.out]; exact hkn
      obtain ⟨g, off, rfl, hgl, hc⟩ := HROW.out (by intro e; rw [e] at hkl; simp at hkl)
      obtain ⟨q, hq⟩ : ∃ q, E[k]? = some q := ⟨_, List.getElem?_eq_getElem hkl⟩
      obtain ⟨u, d0, d1, d2, d3, hu⟩ := hc k q hq
      have d0 := (HBW.out.cell (p := ⟨g, off + k * 4, none⟩) hgl).trans d0
      have d1 := (HBW.out.cell (p := ⟨g, off + k * 4 + 1, none⟩) hgl).trans d1
      have d2 := (HBW.out.cell (p := ⟨g, off + k * 4 + 2, none⟩) hgl).trans d2
      have d3 := (HBW.out.cell (p := ⟨g, off + k * 4 + 3, none⟩) hgl).trans d3
      have HU : Hid (RowOf .u8 W1 u q.bytes) := Lib.hid (hu.below HB1.out)
      obtain ⟨ua, ul, uc, rfl, hul⟩ : ∃ ua ul uc, u = .slice ua ul uc ∧ ul = q.bytes.length := by
        obtain ⟨a', c', e', _⟩ := hu
        exact ⟨a', _, c', e', rfl⟩
      have HUL := Lib.hid hul
      clear hc hkl hgl hq hu hul
      by_cases h256 : 256 < ul
      · have h256' : (256 : Int) < ul := by omega
        have hb7 := below_alloc wr (.cells #[.int .i64 q.kind, .int .u8 q.code, .int .u8 q.option, .slice ua ul uc] 38)
        have HB7 := Lib.hid (HBW.out.trans (hb7.mono (by omega)))
        clear hb7
        go_wp2
        go_ret
        exact ⟨rfl, HB7.out⟩
      · have h256' : (ul : Int) ≤ 256 := by omega
        have hb7 := below_alloc wr (.cells #[.int .i64 q.kind, .int .u8 q.code, .int .u8 q.option, .slice ua ul uc] 38)
        obtain ⟨W3, hW3⟩ : ∃ W3, W3 = wr.alloc (.cells #[.int .i64 q.kind, .int .u8 q.code, .int .u8 q.option, .slice ua ul uc] 38) := ⟨_, rfl⟩
        have hblk : W3.heap[wr.heap.size]? = some (.cells #[.int .i64 q.kind, .int .u8 q.code, .int .u8 q.option, .slice ua ul uc] 38 (0, 0)) := by rw [hW3]; exact heap_alloc_new wr _
        rw [← hW3] at hb7
        have HB7 := Lib.hid hb7
        have HW3 := Lib.hid hW3.symm
        obtain ⟨⟨e0, e1, e2, e3⟩, _⟩ := boxed_facts hblk
        clear hW3 hblk hb7 h256
        go_upto_region 9 with fail
        rw [HW3.out]
        go_wp2_with fail
        refine (plain_any q ua ul uc W3).mono ?_
        rintro e W4 ⟨rfl, b4⟩
        have hq256 : q.bytes.length ≤ 256 := by have := HUL.out; omega
        have hrow4 := plainP_row (w := W1) q (.slice ua ul uc) HU.out
        have hok4 := fun h => plainP_ok q (.slice ua ul uc) h hq256
        have hlen4 : (plainP q (.slice ua ul uc)).1.1.bytes.length ≤ 256 := by
          unfold plainP
          split
          · exact hq256
          · split
            · simp
            · split
              · simp
              · split
                · simp
                · split
                  · exact hq256
                  · simp
        obtain ⟨⟨⟨f, x⟩, ok⟩, hfx⟩ : ∃ r, r = plainP q (.slice ua ul uc) := ⟨_, rfl⟩
        rw [← hfx] at hrow4 hok4 hlen4 ⊢
        simp only at hrow4 hok4 hlen4
        obtain ⟨xa, xl, xc, rfl⟩ : ∃ xa xl xc, x = .slice xa xl xc := by
          obtain ⟨a', c', e', _⟩ := hrow4
          exact ⟨a', _, c', e'⟩
        have hsz4 : s ≤ W4.heap.size := by have := b4.size; have := HB7.out.size; omega
        have hb4 : Below wr.heap.size wr W4 := HB7.out.trans (b4.mono HB7.out.size)
        have hb5 := below_alloc W4 (.cells #[.int .i64 f.kind, .int .u8 f.code, .int .u8 f.option, .slice xa xl xc] 38)
        have hraw := ownsRow_keep HB.out.row fun g _ _ hl => (hb4.trans (hb5.mono hb4.size)).block g hl
        have HB8 : Hid (Below s W1 (W4.alloc (.cells #[.int .i64 f.kind, .int .u8 f.code, .int .u8 f.option, .slice xa xl xc] 38))) := Lib.hid ((HB.out.old.trans (hb4.mono hsz)).trans (hb5.mono hsz4))
        obtain ⟨W5, hW5⟩ : ∃ W5, W5 = W4.alloc (.cells #[.int .i64 f.kind, .int .u8 f.code, .int .u8 f.option, .slice xa xl xc] 38) := ⟨_, rfl⟩
        have hblk5 : W5.heap[W4.heap.size]? = some (.cells #[.int .i64 f.kind, .int .u8 f.code, .int .u8 f.option, .slice xa xl xc] 38 (0, 0)) := by rw [hW5]; exact heap_alloc_new W4 _
        have hs5 : s ≤ W5.heap.size := by rw [hW5, World.size_alloc]; omega
        rw [← hW5] at hraw HB8
        rw [← HPL.out] at hraw
        have HW5 := Lib.hid hW5.symm
        obtain ⟨⟨g0, g1, g2, g3⟩, _⟩ := boxed_facts hblk5
        have HRAW := Lib.hid hraw
        have HROW4 := Lib.hid hrow4
        have HCL := Lib.hid (ev_cl W5 f.kind f.code f.option (.slice xa xl xc))
        have HRF := Lib.hid (row_first hraw)
        clear b4 hfx hb4 hb5 hW5 hblk5 hrow4 e0 e1 e2 e3
        cases ok
        · clear hok4 hraw
          go_upto_region 12 with fail
          rw [HW5.out]
          go_wp2_with fail
          go_roundw
          case rel => exact ⟨k + 1, P, by omega, by go_num, by rw [← HPL.out]; exact HRAW.out, HB.out.plain, by have := HB.out.len; omega, HB8.out⟩
          case measure => simp [intOf]; omega
        · have hf : Plain f := hok4 rfl
          have HF := Lib.hid hf
          clear hok4 hf
          go_upto_region 12 with fail
          rw [HW5.out]
          go_wp2_with (at_builtin; refine wpList_append_own _ rfl _ _ 30 rfl s 38 i0 (.agg #[.int .i64 0, .int .u8 0, .int .u8 0, .slice none 0 0]) 4 40 Try.underlying30 hi hz0 hz1 hz2 rfl (by decide) _ _ _ rfl (hraw.alloc _) ⟨W5.heap.size, 0, none⟩ 1 1 [.int .i64 f.kind, .int .u8 f.code, .int .u8 f.option, .slice xa xl xc] rfl rfl HCL.out (by simp [Value.oneCell']) (by unfold maxLen; omega) (by omega) (by rw [World.size_alloc]; omega) ?_; intro v' w5 hown' hgrow _)
          go_roundw
          case rel =>
            refine ⟨k + 1, P ++ [(f, .slice xa xl xc)], by omega, by go_num, ?_, fun p hp => ?_, by rw [List.length_append, List.length_singleton]; have := HB.out.len; omega, ?_⟩
            · rw [List.length_append, evC_append, ← HPL.out]; exact hown'
            · rcases List.mem_append.1 hp with hp | hp
              · exact HB.out.plain p hp
              · rw [List.mem_singleton.1 hp]; exact ⟨HF.out, HROW4.out, hlen4⟩
            · exact (HB8.out.alloc hs5 _).grown hgrow (by rw [World.size_alloc]; omega) HRF.out
          case measure => simp [intOf]; omega
    · obtain rfl : n = k := by omega
      obtain ⟨M, hM⟩ : ∃ M, M = P.map (·.1) := ⟨_, rfl⟩
      have hevm := HB.out.evsAt HS.out
      rw [← hM] at hevm
      have HMP : Hid ((∀ e ∈ M, Plain e) ∧ (∀ e ∈ M, e.bytes.length ≤ 256) ∧ M.length ≤ 60) := Lib.hid ⟨fun e he => by
          rw [hM] at he
          obtain ⟨p, hp, rfl⟩ := List.mem_map.1 he
          exact (HB.out.plain p hp).1, fun e he => by
          rw [hM] at he
          obtain ⟨p, hp, rfl⟩ := List.mem_map.1 he
          exact (HB.out.plain p hp).2.2, by rw [hM, List.length_map, ← HPL.out]; omega⟩
      have HWL : Hid ((writeL M).length ≤ 40000) := Lib.hid (by
        have h1 := writeL_le M
        have h2 := totE_le M 256 HMP.out.2.1
        have := HMP.out.2.2
        omega)
      have hec := ec_new wr wr (.slice av m cv) L (HR.out.below HBW.out) (Below.refl _ _)
      obtain ⟨d, hd⟩ : ∃ d, d = wr.heap.size := ⟨_, rfl⟩
      obtain ⟨W6, hW6⟩ : ∃ W6, W6 = ((wr.alloc (.cells zdec 29)).alloc (.cells zdec 29)).alloc (.cells zdec 29) := ⟨_, rfl⟩
      rw [← hd, ← hW6] at hec
      have HEVM := Lib.hid hevm
      have HEC6 := Lib.hid hec
      have HW6 := Lib.hid hW6.symm
      have HDD := Lib.hid hd.symm
      clear hM hevm hec hW6 hd
      go_upto_region 16 with fail
      rw [HW6.out, HDD.out]
      go_wp2_with fail
      refine (write_any _ M W6 (HEVM.out.below HEC6.out.old) (fun e he => by have := HMP.out.2.1 e he; omega) (by have := HWL.out; omega) (by have := HMP.out.2.2; unfold maxLen; omega)).mono ?_
      rintro e W7 ⟨p7, rfl, R7, b7⟩
      have HEC7 := Lib.hid (HEC6.out.below b7)
      have HR7 := Lib.hid R7
      have hlt6 := HEC6.out.lt
      clear R7 b7
      go_wp2_with fail
      refine (feed_any d dec0 _ (writeL M) W7 HEC7.out.d1 (by simp [dec0]) (HR7.out.rowIn.mono fun k hk => by omega) HWL.out).mono ?_
      rintro e W8 ⟨v8, P8, rfl, hD8, hE8, hP8, hT8⟩
      have hec8 := HEC7.out.turn1 hT8 hD8
      have hev8 := hE8.evsAt
      rw [hP8] at hev8
      have hbe := back_events M HMP.out.1
      have HEC8 := Lib.hid hec8
      have HEV8 := Lib.hid hev8
      have HBE := Lib.hid hbe
      have HF8 : Hid ((feedD dec0 (writeL M)).2.length ≤ 40000 ∧ totE (feedD dec0 (writeL M)).2 ≤ 40000) := Lib.hid (by
        have h1 := back_len M dec0 [] rfl HMP.out.1
        have h2 := feed_pot dec0 (writeL M)
        have h3 : pend dec0 = 0 := rfl
        have := HMP.out.2.2
        have := HWL.out
        rw [← feedD_fold] at h1
        simp only [List.length_nil] at h1
        omega)
      clear hD8 hE8 hP8 hT8 hec8 hev8 hbe hlt6
      go_wp2_with fail
      refine (join_any _ _ W8 HEV8.out (by have := HF8.out; omega) (by have := HF8.out; omega)).mono ?_
      rw [HBE.out.2]
      rintro e W9 ⟨v9, P9, rfl, hE9, hP9, b9⟩
      have hev9 := hE9.evsAt
      rw [hP9] at hev9
      have HEV9 := Lib.hid hev9
      have HEC9 := Lib.hid (HEC8.out.below b9)
      clear hE9 hP9 hev9 b9
      obtain ⟨J, hJ⟩ : ∃ J, J = joinL M := ⟨_, rfl⟩
      rw [← hJ] at HEV9
      have HJ := Lib.hid hJ
      have HJL : Hid (J.length ≤ 60 ∧ totE J ≤ 16000) := Lib.hid (by
        have h1 := joinL_tot M
        have h2 := totE_le M 256 HMP.out.2.1
        have := HMP.out.2.2
        rw [hJ]
        omega)
      clear hJ
      go_wp2_with fail
      refine (as_any _ J W9 HEV9.out (by have := HJL.out; omega)).mono ?_
      rintro e W10 ⟨v10, rfl, hE10, b10⟩
      have HE10 := Lib.hid hE10
      have HEC10 := Lib.hid (HEC9.out.below b10)
      clear hE10 b10
      go_wp2_with fail
      refine (join_any _ M W10 (HEVM.out.below HEC10.out.old) (by have := HMP.out.2.2; omega) (by have h2 := totE_le M 256 HMP.out.2.1; have := HMP.out.2.2; omega)).mono ?_
      rw [← HJ.out]
      rintro e W11 ⟨v11, P11, rfl, hE11, hP11, b11⟩
      have hev11 := hE11.evsAt
      rw [hP11] at hev11
      have HEV11 := Lib.hid hev11
      have HE1011 := Lib.hid (HE10.out.below b11)
      have HEC11 := Lib.hid (HEC10.out.below b11)
      clear hE11 hP11 hev11 b11
      go_wp2_with fail
      refine (as_any _ J W11 HEV11.out (by have := HJL.out; omega)).mono ?_
      rintro e W12 ⟨v12, rfl, hE12, b12⟩
      have HE12 := Lib.hid hE12
      have HE1012 := Lib.hid (HE1011.out.below b12)
      have HEC12 := Lib.hid (HEC11.out.below b12)
      clear hE12 b12
      go_wp2_with fail
      refine (same5_true _ _ J W12 HE1012.out HE12.out (by have := HJL.out; omega) (fun e he => by have := tot_mem he; have := HJL.out; omega)).mono ?_
      rintro e w' ⟨rfl, nd, rfl⟩
      have HEC13 := Lib.hid (HEC12.out.drewN nd)
      obtain ⟨W13, hW13⟩ : ∃ W13, W13 = W12.drewN nd := ⟨_, rfl⟩
      rw [← hW13] at HEC13 ⊢
      clear hW13
      go_wp2_with fail
      refine (open_any HEC13.out.d1).mono ?_
      rw [HBE.out.1]
      rintro e w' ⟨rfl, rfl⟩
      have hlt13 := HEC13.out.lt
      go_wp2_with fail
      refine (feed_any (d + 1) dec0 _ L W13 HEC13.out.d2 (by simp [dec0]) (HEC13.out.row.mono fun k hk => by omega) (by have := HM.out; omega)).mono ?_
      rintro e W14 ⟨v14, P14, rfl, hD14, hE14, hP14, hT14⟩
      have HEC14 := Lib.hid (HEC13.out.turn2 hT14 hD14)
      have hs14 : d + 2 < W13.heap.size := hlt13
      obtain ⟨G, hG⟩ : ∃ G, G = (feedD dec0 L).2 := ⟨_, rfl⟩
      have HGF : Hid (G.length ≤ 4000 ∧ totE G ≤ 2000) := Lib.hid (by
        have h1 := (feedD_fine dec0 L (by simp [dec0]) (by simp [dec0])).many
        have h2 := feed_pot dec0 L
        have h3 : pend dec0 = 0 := rfl
        have := HM.out
        rw [hG]
        omega)
      rw [← hG] at hP14
      have HG := Lib.hid hG
      have HP14 := Lib.hid hP14
      have HE14 := Lib.hid hE14
      have HH14 : Hid (d + 2 < W13.heap.size) := Lib.hid hs14
      obtain ⟨va, vc, rfl⟩ := hE14.form
      obtain ⟨ng, hng⟩ : ∃ ng, ng = P14.length := ⟨_, rfl⟩
      rw [← hng] at HE14
      have HNG : Hid (ng = G.length) := Lib.hid (by rw [hng, ← hP14, List.length_map])
      rw [← hng]
      have hngl : ng ≤ 4000 := by rw [HNG.out]; exact HGF.out.1
      have HEVG := Lib.hid (show EvsAt W14 (.slice va ng vc) G from by have := HE14.out.evsAt; rw [HP14.out] at this; exact this)
      clear hD14 hE14 hP14 hT14 hG hng HEC13 HEC12 HE1012 HE12 HEC11 HE1011 HEV11 HEC10 HE10 HEC9 HEV9 HEC8 HEV8 HF8 HEC7 HR7 HEC6 HW6
      go_wp2_with fail
      go_loopw [65] (fun i wr => LongRel G ng W14 i wr) (fun i _ => ng - (intOf i).toNat)
      case atStart => exact ⟨0, by omega, rfl, by simp, Below.refl _ _⟩
      case round =>
        obtain ⟨k, hk, rfl, hno, hold⟩ := hrel
        by_cases hkn : k < ng
        · have hkl : k < G.length := by rw [← HNG.out]; exact hkn
          obtain ⟨a', c', e', hrow'⟩ := HEVG.out
          injection e' with e1 e2 e3
          obtain ⟨g, off, e4, hgl, hc⟩ := hrow' (by intro e; rw [e] at hkl; simp at hkl)
          rw [← e1] at e4
          subst e4
          obtain ⟨q, hq⟩ : ∃ q, G[k]? = some q := ⟨_, List.getElem?_eq_getElem hkl⟩
          obtain ⟨u, d0, d1, d2, d3, hu⟩ := hc k q hq
          have htk : G.take (k + 1) = G.take k ++ [q] := by
            rw [List.take_succ_eq_append_getElem hkl]
            obtain ⟨_, e⟩ := List.getElem?_eq_some_iff.1 hq
            rw [e]
          have d0 := (hold.cell (p := ⟨g, off + k * 4, none⟩) hgl).trans d0
          have d1 := (hold.cell (p := ⟨g, off + k * 4 + 1, none⟩) hgl).trans d1
          have d2 := (hold.cell (p := ⟨g, off + k * 4 + 2, none⟩) hgl).trans d2
          have d3 := (hold.cell (p := ⟨g, off + k * 4 + 3, none⟩) hgl).trans d3
          obtain ⟨ua, ul, uc, rfl⟩ : ∃ ua ul uc, u = .slice ua ul uc := by
            obtain ⟨a', c', e', _⟩ := hu
            exact ⟨a', _, c', e'⟩
          have HTK := Lib.hid htk
          have HNO := Lib.hid hno
          have HOLD := Lib.hid hold
          have HB15 := Lib.hid (hold.trans ((below_alloc _ (.cells #[.int .i64 q.kind, .int .u8 q.code, .int .u8 q.option, .slice ua ul uc] 38)).mono hold.size))
          have HFIN := Lib.hid (HBW.out.trans ((HEC14.out.old.mono HBW.out.size).trans (HB15.out.mono (Nat.le_trans HBW.out.size HEC14.out.old.size))))
          clear hc hkl hq hu htk hno hold e1 e2 e3 hrow' hgl
          by_cases k6 : q.kind = 6
          · have t6 : (q.kind == 6) = true := by simp [k6]
            clear k6
            go_wp2
            go_ret
            exact ⟨rfl, HFIN.out⟩
          · have t6 : (q.kind == 6) = false := by simp [k6]
            by_cases k7 : q.kind = 7
            · have t7 : (q.kind == 7) = true := by simp [k7]
              clear k6 k7
              go_wp2
              go_ret
              exact ⟨rfl, HFIN.out⟩
            · have t7 : (q.kind == 7) = false := by simp [k7]
              have HKK : Hid (q.kind ≠ 6 ∧ q.kind ≠ 7) := Lib.hid ⟨k6, k7⟩
              clear k6 k7
              go_wp2_with fail
              go_roundw
              case rel => exact ⟨k + 1, by omega, by go_num, fun e he => by
                rw [HTK.out] at he
                rcases List.mem_append.1 he with he | he
                · exact HNO.out e he
                · rw [List.mem_singleton.1 he]; exact HKK.out, HB15.out⟩
              case measure => simp [intOf]; omega
        · obtain rfl : ng = k := by omega
          rw [List.take_of_length_le (by rw [← HNG.out]; exact Nat.le_refl _)] at hno
          have hbb : (feedD dec0 (writeL G)).2 = G := by rw [HG.out]; exact back_bytes L (fun x hx => HBY.out x hx) (by rw [← HG.out]; exact hno)
          have HBB := Lib.hid hbb
          have HEC15 := Lib.hid (HEC14.out.below hold)
          have HOLD := Lib.hid hold
          have HWG : Hid ((writeL G).length ≤ 40000) := Lib.hid (by
            have h1 := writeL_le G
            have := HGF.out
            omega)
          clear hbb hno hold
          go_wp2_with fail
          refine (write_any _ G _ (HEVG.out.below HOLD.out) (fun e he => by have := tot_mem he; have := HGF.out; omega) (by have := HWG.out; omega) (by have := HGF.out; unfold maxLen; omega)).mono ?_
          rintro e W16 ⟨p16, rfl, R16, b16⟩
          have HEC16 := Lib.hid (HEC15.out.below b16)
          have hlt15 := HEC15.out.lt
          have HR16 := Lib.hid R16
          have HO16 := Lib.hid (HOLD.out.trans (b16.mono HOLD.out.size))
          clear R16 b16
          go_wp2_with fail
          refine (feed_any (d + 2) dec0 _ (writeL G) W16 HEC16.out.d3 (by simp [dec0]) (HR16.out.rowIn.mono fun k hk => by omega) HWG.out).mono ?_
          rintro e W17 ⟨v17, P17, rfl, hD17, hE17, hP17, hT17⟩
          rw [show (feedD dec0 (writeL G)).2 = G from HBB.out] at hP17
          have hev17 := hE17.evsAt
          rw [hP17] at hev17
          have HEV17 := Lib.hid hev17
          have HEC17 := Lib.hid (HEC16.out.turn3 hT17 hD17)
          have heg : EvsAt W17 (.slice va ng vc) G := by
            have h1 := (HE14.out.below HO16.out).keep (w' := W17) fun g hg hl => hT17.block g hl (by have := HH14.out; omega)
            have h2 := h1.evsAt
            rw [HP14.out] at h2
            exact h2
          have HEG := Lib.hid heg
          clear hD17 hE17 hP17 hT17 hev17 heg hlt15
          go_wp2_with fail
          refine (as_any _ G W17 HEV17.out (by have := HGF.out; omega)).mono ?_
          rintro e W18 ⟨v18, rfl, hE18, b18⟩
          have HE18 := Lib.hid hE18
          have HEC18 := Lib.hid (HEC17.out.below b18)
          have HEG18 := Lib.hid (HEG.out.below b18)
          clear hE18 b18
          go_wp2_with fail
          refine (as_any _ G W18 HEG18.out (by have := HGF.out; omega)).mono ?_
          rintro e W19 ⟨v19, rfl, hE19, b19⟩
          have HE19 := Lib.hid hE19
          have HE1819 := Lib.hid (HE18.out.below b19)
          have HEC19 := Lib.hid (HEC18.out.below b19)
          clear hE19 b19
          go_wp2_with fail
          refine (same5_true _ _ G W19 HE1819.out HE19.out (by have := HGF.out; omega) (fun e he => by have := tot_mem he; have := HGF.out; omega)).mono ?_
          rintro e w' ⟨rfl, nd, rfl⟩
          have HFIN := Lib.hid (HBW.out.trans ((HEC19.out.drewN nd).old.mono HBW.out.size))
          go_wp2
          go_ret
          exact ⟨rfl, HFIN.out⟩
end Go.Proofs.Ytgjdfhfaikdaaaa.Iac
