/-
  The walk of HeaderCounts.
-/
import Derived.Test.YtfijcdidcnfadaaHeadE
import Derived.Test.YtfijcdidcnfadaaHeadG
import Derived.Test.YtfijcdidcnfadaaOpenH
namespace Go.Proofs.Ytfijcdidcnfadaa.Head
open Go.RowKit Base
set_option linter.unusedVariables false

theorem give_same (P : List Int) (n : Int) (h : n ∉ P) (hl : P.length ≤ 64) : giveP P n = giveR P n := by
  unfold giveP giveR
  rw [List.erase_of_not_mem h, List.length_append, List.length_singleton]
  by_cases h64 : P.length = 64
  · rw [if_pos h64, if_pos (by omega), List.eraseIdx_zero]
    cases P with
    | nil => simp at h64
    | cons a P => rfl
  · rw [if_neg h64, if_neg (by omega)]
theorem giveP_mem (P : List Int) (n x : Int) (h : x ∈ giveP P n) : x ∈ P ∨ x = n := by
  unfold giveP at h
  rcases List.mem_append.1 h with h | h
  · left
    split at h
    · exact List.mem_of_mem_erase ((List.eraseIdx_sublist _ _).subset h)
    · exact List.mem_of_mem_erase h
  · exact .inr (List.mem_singleton.1 h)
/-- The counter and the reference's, beside one another. -/
structure CR (w : World) (cb : Nat) (c : Int) (P : List Int) (a : Option Addr) (n cp : Nat) (W : World) : Prop where
  cnt : CntAt W cb c P
  box : W.heap[cb + 1]? = some (.cells #[.int .i64 c, .slice a n cp] 52 (0, 0))
  row : CutIn (fun b => b ≠ cb ∧ b ≠ cb + 1) W (.slice a n cp) P
  old : Below w.heap.size w W
  lo : w.heap.size ≤ cb
  small : ∀ x ∈ P, x < c
section
variable {w W W' : World} {cb : Nat} {c : Int} {P : List Int} {a : Option Addr} {n cp : Nat}
theorem CR.len (h : CR w cb c P a n cp W) : n = P.length := by
  obtain ⟨_, a', c', e, _⟩ := h.row
  injection e
theorem CR.c3 (h : CR w cb c P a n cp W) : W.cell? ⟨cb + 1, 0, none⟩ = some (.int .i64 c) ∧ W.cell? ⟨cb + 1, 1, none⟩ = some (.slice a n cp) ∧ ∀ o, W.frozen? ⟨cb + 1, o, none⟩ = false :=
  ⟨by simp [World.cell?, h.box], by simp [World.cell?, h.box], fun o => by simp [World.frozen?, h.box]⟩
theorem CR.below (h : CR w cb c P a n cp W) (t : Below W.heap.size W W') : CR w cb c P a n cp W' :=
  ⟨h.cnt.below t, (t.block _ (lt_of_block h.box)).trans h.box, ⟨h.row.1.below t, h.row.2⟩, h.old.trans (t.mono h.old.size), h.lo, h.small⟩
theorem CR.drewN (h : CR w cb c P a n cp W) (k : Nat) : CR w cb c P a n cp (W.drewN k) := h.below (below_drewN (Below.refl _ W) k)
theorem CR.boxT (h : CR w cb c P a n cp W) (t : Turn (At cb) W W') : W'.heap[cb + 1]? = some (.cells #[.int .i64 c, .slice a n cp] 52 (0, 0)) ∧ CutInt W' (.slice a n cp) P :=
  ⟨(t.block _ (lt_of_block h.box) (fun e => by have : cb + 1 = cb := e; omega)).trans h.box, (h.row.1.turn t fun b hb e => hb.1 e).row, h.row.2⟩
theorem pend_at {W : World} (h : CR w cb c P a n cp W) (k : Nat) : Calls Try.prog 31 #[.pointer (some ⟨cb, 0, none⟩)] (W.drewN k) fun e w' => e = .returned (.int .i64 n) ∧ ∃ m, w' = W.drewN m := by
  have := pending_any (h.drewN k).cnt
  rw [← h.len] at this
  exact this.mono fun e w' ⟨h1, h2⟩ => ⟨h1, k, h2.symm⟩
theorem box_c {x y : Value} {g : Nat} (h : W.heap[g]? = some (.cells #[x, y] 52 (0, 0))) : W.cell? ⟨g, 0, none⟩ = some x ∧ W.cell? ⟨g, 1, none⟩ = some y ∧ W.frozen? ⟨g, 0, none⟩ = false ∧ W.frozen? ⟨g, 1, none⟩ = false :=
  ⟨by simp [World.cell?, h], by simp [World.cell?, h], by simp [World.frozen?, h], by simp [World.frozen?, h]⟩
/-- The counter turned, and what is laid to the reference's box. -/
theorem CR.turned {W2 W3 : World} {c' : Int} {P' : List Int} {a' : Option Addr} {n' cp' : Nat} (h : CR w cb c P a n cp W) (t : Turn (At cb) W W2) (hc : CntAt W2 cb c' P') (b : Below W2.heap.size W2 W3)
    (hr : CutIn (fun b => W2.heap.size ≤ b) W3 (.slice a' n' cp') P') (hs : ∀ x ∈ P', x < c') :
    CR w cb c' P' a' n' cp' ((W3.setCell ⟨cb + 1, 0, none⟩ (.int .i64 c')).setCell ⟨cb + 1, 1, none⟩ (.slice a' n' cp')) := by
  have hlt := lt_of_block h.box
  have hlt2 : cb + 1 < W2.heap.size := Nat.lt_of_lt_of_le hlt t.size
  have hb2 : W2.heap[cb + 1]? = some (.cells #[.int .i64 c, .slice a n cp] 52 (0, 0)) := (t.block _ hlt (fun e => by have : cb + 1 = cb := e; omega)).trans h.box
  have hb3 := (b.block _ hlt2).trans hb2
  have far : ∀ k, k ≠ cb + 1 → ((W3.setCell ⟨cb + 1, 0, none⟩ (.int .i64 c')).setCell ⟨cb + 1, 1, none⟩ (.slice a' n' cp')).heap[k]? = W3.heap[k]? := fun k hk => by
    rw [Below.heap_setCell _ _ _ _ (by show k ≠ cb + 1; exact hk), Below.heap_setCell _ _ _ _ (by show k ≠ cb + 1; exact hk)]
  refine ⟨?_, ?_, ?_, ?_, h.lo, hs⟩
  · exact (hc.below b).kept (far cb (by omega))
  · have h1 := heap_set (heap_set hb3 0 (.int .i64 c')) 1 (.slice a' n' cp')
    rw [h1]
    rfl
  · refine ⟨?_, hr.2⟩
    obtain ⟨x, y, e, hh⟩ := hr.1
    refine ⟨x, y, e, fun hne => ?_⟩
    obtain ⟨g, off, e1, hg, hl, hcell⟩ := hh hne
    refine ⟨g, off, e1, ⟨by omega, by omega⟩, by simpa using hl, fun i hi => ?_⟩
    exact (cell_block (far g (by omega)) _).trans (hcell i hi)
  · have b2 : Below w.heap.size W W2 := t.at_below h.old.size h.lo
    exact (((h.old.trans b2).trans (b.mono (Nat.le_trans h.old.size t.size))).setCell (Nat.le_trans h.lo (Nat.le_succ _)) _).setCell (Nat.le_trans h.lo (Nat.le_succ _)) _
end
def CountRel (w : World) (cb m : Nat) (i : Value) (wr : World) : Prop := ∃ (k : Nat) (P : List Int) (a : Option Addr) (n cp : Nat), k ≤ m ∧ i = .int .i64 (k : Nat) ∧ CR w cb k P a n cp wr
def StepRel (w : World) (cb m sl : Nat) (i : Value) (wr : World) : Prop := ∃ (k : Nat) (c : Int) (P : List Int) (a : Option Addr) (n cp : Nat), k ≤ sl ∧ 0 ≤ c ∧ c ≤ m + k ∧ i = .int .i64 (k : Nat) ∧ CR w cb c P a n cp wr
set_option maxRecDepth 100000 in
set_option maxHeartbeats 4000000 in
theorem headerCounts_law {w : World} (f : Int) (hwf : (Lit.int .i64 f).wf = true) (v : Value) (L : List Int) (hL : Base.RowOf .i64 w v L ∧ L.length ≤ maxLen ∧ ∀ n ∈ L, Open.I64 n) :
    Calls Try.prog 5 #[.int .i64 f, v] w fun e W' => e = .returned (.bool true) ∧ Below w.heap.size w W' := by
  have hzc := (zero_of_info info_cnt).1
  have hzr := (zero_of_info info_rc).1
  obtain ⟨m, hand, hm, hq0⟩ := Open.mask_nat f 127 7 128 (by omega) (by decide) (by decide)
  have hand : bits .and .i64 f 127 = (m : Int) := hand
  obtain ⟨hrow, hl, hbd⟩ := hL
  have HROW := Lib.hid hrow
  have HBD := Lib.hid hbd
  obtain ⟨sa, sc, rfl, _⟩ := hrow
  obtain ⟨sl, hsl⟩ : ∃ sl, sl = L.length := ⟨_, rfl⟩
  have HSL := Lib.hid hsl
  unfold maxLen at hl
  rw [← hsl] at hl HROW ⊢
  clear hwf hbd hsl hq0
  by_cases hbig : 200 < sl
  · have hbig' : (200 : Int) < sl := by omega
    go_enter Try.func5, Try.ntmps5
    go_wp2_with fail
    refine (head_alive w).mono ?_
    rintro e W1 ⟨rfl, b1⟩
    go_wp2_with fail
    go_ret
    exact ⟨rfl, b1⟩
  have hsm : (sl : Int) ≤ 200 := by omega
  go_enter Try.func5, Try.ntmps5
  go_wp2_with fail
  refine (head_alive w).mono ?_
  rintro e W1 ⟨rfl, b1⟩
  have hcr : CR w W1.heap.size 0 [] none 0 0 ((W1.alloc (.cells zcnt 50)).alloc (.cells #[.int .i64 0, .slice none 0 0] 52)) := by
    have z1 := World.size_alloc W1 (.cells zcnt 50)
    have b2 := below_alloc (W1.alloc (.cells zcnt 50)) (.cells #[.int .i64 0, .slice none 0 0] 52)
    refine ⟨(cnt_new W1).below b2, ?_, ⟨RowIn.nil _ _ _, none, 0, rfl, by simp, fun _ => rfl⟩, (b1.alloc b1.size _).alloc (by rw [z1]; have := b1.size; omega) _, b1.size, by simp⟩
    rw [← z1]
    exact heap_alloc_new _ _
  obtain ⟨W2, hW2⟩ : ∃ W2, W2 = (W1.alloc (.cells zcnt 50)).alloc (.cells #[.int .i64 0, .slice none 0 0] 52) := ⟨_, rfl⟩
  obtain ⟨cb, hcb⟩ : ∃ cb, cb = W1.heap.size := ⟨_, rfl⟩
  rw [← hW2, ← hcb] at hcr
  have HW2 := Lib.hid hW2.symm
  have HCB := Lib.hid hcb.symm
  have HCR := Lib.hid hcr
  clear b1 hcr hW2 hcb hbig
  go_upto_region 7 with fail
  rw [HW2.out, HCB.out]
  go_wp2_with fail
  go_loopw [23] (fun i wr => CountRel w cb m i wr) (fun i _ => m - (intOf i).toNat)
  case atStart => exact ⟨0, [], none, 0, 0, by omega, rfl, HCR.out⟩
  case round =>
    obtain ⟨k, P, a, n, cp, hk, rfl, hcr⟩ := hrel
    have HC := Lib.hid hcr
    by_cases hkm : k < m
    · have hkm' : (k : Int) < (m : Int) := by omega
      have hnm : (k : Int) ∉ P := fun hm => by have := HC.out.small _ hm; omega
      have hgs := give_same P (k : Int) hnm HC.out.cnt.le
      obtain ⟨q, hq⟩ : ∃ q : Int, q = (k : Int) + 1 := ⟨_, rfl⟩
      have hsm2 : ∀ x ∈ giveR P (k : Int), x < q := fun x hx => by
        rw [← hgs] at hx
        rcases giveP_mem P _ x hx with h | h
        · have := HC.out.small x h; omega
        · omega
      have hnx := next_any HC.out.cnt (by omega) (by omega)
      have HQ := Lib.hid hq
      have emod2 : ((k : Int) + 1) % 32768 = q := by omega
      rw [emod2, hgs] at hnx
      have HNX := Lib.hid hnx
      have HE := Lib.hid emod2
      have HS2 := Lib.hid hsm2
      clear hcr hnm hgs hsm2 hnx hq emod2
      go_wp2_with fail
      refine HNX.out.mono ?_
      rintro e W3 ⟨rfl, hc3, ht3⟩
      obtain ⟨hb3, hr3⟩ := HC.out.boxT ht3
      have HC3 := Lib.hid hc3
      have HT3 := Lib.hid ht3
      have hgv := rgive_any (k : Int) (.slice a n cp) P W3 (by omega) (by omega) hr3 HC.out.cnt.le
      rw [HE.out] at hgv
      have HGV := Lib.hid hgv
      have HB3 := Lib.hid hb3
      obtain ⟨c0, c1, f0, f1⟩ := box_c hb3
      clear hc3 ht3 hb3 hr3 hgv f0 f1
      go_wp2_with fail
      refine HGV.out.mono ?_
      rintro e W4 ⟨u', rfl, hu, hb4⟩
      obtain ⟨_, a', cp', rfl, _⟩ := id hu
      obtain ⟨n', hn'⟩ : ∃ n', n' = (giveR P (k : Int)).length := ⟨_, rfl⟩
      rw [← hn'] at hu ⊢
      have hb4b := (hb4.block _ (lt_of_block HB3.out)).trans HB3.out
      have hfin := HC.out.turned HT3.out HC3.out hb4 hu HS2.out
      obtain ⟨c0', c1', f0, f1⟩ := box_c hb4b
      have HFIN := Lib.hid hfin
      clear hu hb4 hb4b hfin hn' c0 c1
      go_wp2_with fail
      go_roundw
      case rel => exact ⟨k + 1, _, a', n', cp', by omega, by go_num, by rw [show ((k + 1 : Nat) : Int) = q by have := HQ.out; omega]; exact HFIN.out⟩
      case measure => simp [intOf]; omega
    · obtain rfl : m = k := by omega
      clear HCR
      have hcm := hcr
      go_wp2_with fail
      go_loopw [34] (fun i wr => StepRel w cb m sl i wr) (fun i _ => sl - (intOf i).toNat)
      case atStart => exact ⟨0, m, P, a, n, cp, by omega, by omega, by omega, rfl, HC.out⟩
      clear hcr hcm HC
      case round =>
        obtain ⟨k, c, P, a, n, cp, hk, hc0, hck, rfl, hcr⟩ := hrel
        have HC := Lib.hid hcr
        by_cases hkm : k < sl
        · have hkl : k < L.length := by rw [← HSL.out]; exact hkm
          have hrw := HROW.out.below HC.out.old
          obtain ⟨a0, c0, e0, hcell0⟩ := hrw
          injection e0 with e1 e2 e3
          subst e1 e3
          obtain ⟨g, off, rfl, hcell⟩ := hcell0 (by intro e; rw [e] at hkl; simp at hkl)
          have d1 := hcell k hkl
          obtain ⟨y, hy⟩ : ∃ y, y = L[k]?.getD 0 := ⟨_, rfl⟩
          have hyb := HBD.out y (by rw [hy, List.getElem?_eq_getElem hkl]; exact List.getElem_mem hkl)
          unfold Open.I64 at hyb
          rw [← hy] at d1
          have hkm' : (k : Int) < (sl : Int) := by omega
          clear hcell hcell0 hy e2 hkl
          by_cases hneg : y < 0
          · skip
            have hnm : c ∉ P := fun hm => by have := HC.out.small _ hm; omega
            have hgs := give_same P c hnm HC.out.cnt.le
            obtain ⟨q, hq⟩ : ∃ q : Int, q = c + 1 := ⟨_, rfl⟩
            have hsm2 : ∀ x ∈ giveR P c, x < q := fun x hx => by
              rw [← hgs] at hx
              rcases giveP_mem P _ x hx with h | h
              · have := HC.out.small x h; omega
              · omega
            have hnx := next_any HC.out.cnt (by omega) (by omega)
            have HQ := Lib.hid hq
            have emod2 : (c + 1) % 32768 = q := by omega
            rw [emod2, hgs] at hnx
            have HNX := Lib.hid hnx
            have HE := Lib.hid emod2
            have HS2 := Lib.hid hsm2
            clear hcr hnm hgs hsm2 hnx hq emod2
            go_wp2_with fail
            refine HNX.out.mono ?_
            rintro e W3 ⟨rfl, hc3, ht3⟩
            obtain ⟨hb3, hr3⟩ := HC.out.boxT ht3
            have HC3 := Lib.hid hc3
            have HT3 := Lib.hid ht3
            have hgv := rgive_any c (.slice a n cp) P W3 (by omega) (by omega) hr3 HC.out.cnt.le
            rw [HE.out] at hgv
            have HGV := Lib.hid hgv
            have HB3 := Lib.hid hb3
            obtain ⟨c0, c1, f0, f1⟩ := box_c hb3
            clear hc3 ht3 hb3 hr3 hgv f0 f1
            go_wp2_with fail
            refine HGV.out.mono ?_
            rintro e W4 ⟨u', rfl, hu, hb4⟩
            obtain ⟨_, a', cp', rfl, _⟩ := id hu
            obtain ⟨n', hn'⟩ : ∃ n', n' = (giveR P c).length := ⟨_, rfl⟩
            rw [← hn'] at hu ⊢
            have hb4b := (hb4.block _ (lt_of_block HB3.out)).trans HB3.out
            have hb5 := hb4.trans ((below_alloc W4 (.cells #[.int .i64 q, .slice a' n' cp'] 52)).mono hb4.size)
            have hu5 : CutIn (fun b => W3.heap.size ≤ b) (W4.alloc (.cells #[.int .i64 q, .slice a' n' cp'] 52)) (.slice a' n' cp') (giveR P c) := ⟨hu.1.below (below_alloc W4 _), hu.2⟩
            have hfin := HC.out.turned HT3.out HC3.out hb5 hu5 HS2.out
            have hblk : (W4.alloc (.cells #[.int .i64 q, .slice a' n' cp'] 52)).heap[W4.heap.size]? = some (.cells #[.int .i64 q, .slice a' n' cp'] 52 (0, 0)) := heap_alloc_new W4 _
            have hb6b := (hb5.block _ (lt_of_block HB3.out)).trans HB3.out
            obtain ⟨W5, hW5⟩ : ∃ W5, W5 = W4.alloc (.cells #[.int .i64 q, .slice a' n' cp'] 52) := ⟨_, rfl⟩
            rw [← hW5] at hfin hblk hb6b
            have HW5 := Lib.hid hW5.symm
            obtain ⟨c0', c1', f0, f1⟩ := box_c hb6b
            obtain ⟨d0, d1, _, _⟩ := box_c hblk
            have HFIN := Lib.hid hfin
            clear hu hb4 hb4b hb5 hu5 hfin hblk hb6b hW5 hn' c0 c1
            go_upto_region 18 with fail
            rw [HW5.out]
            go_upto_region 19 with fail
            obtain ⟨W6, hW6⟩ : ∃ W6, W6 = (W5.setCell ⟨cb + 1, 0, none⟩ (.int .i64 q)).setCell ⟨cb + 1, 1, none⟩ (.slice a' n' cp') := ⟨_, rfl⟩
            rw [← hW6] at HFIN ⊢
            obtain ⟨e0, e1, _⟩ := HFIN.out.c3
            clear hW6 c0' c1' f0 f1 d0 d1
            go_wp2_with fail
            go_quiet ((go_at_call 31; exact pend_at HFIN.out _))
            go_wp2_with fail
            go_roundw
            case rel => exact ⟨k + 1, q, _, a', n', cp', by omega, by have := HQ.out; omega, by have := HQ.out; omega, by go_num, HFIN.out.drewN _⟩
            case measure => simp [intOf]; omega
          · have hneg' : (0 : Int) ≤ y := by omega
            obtain ⟨z, hz⟩ : ∃ z, z = y % 65536 := ⟨_, rfl⟩
            have hwr : IntKind.u16.wrap y = z := by rw [hz]; unfold IntKind.wrap; simp [IntKind.bits, IntKind.signed]
            have hbt : bits .and .i64 y 65535 = z := by
              obtain ⟨j, h1, _, h3⟩ := Open.mask_nat y 65535 16 65536 (by omega) (by decide) (by decide)
              have h1 : bits .and .i64 y 65535 = (j : Int) := h1
              rw [h1, hz]; exact h3
            clear hz
            have hgt := got_any z HC.out.cnt
            have hlen := HC.out.len
            obtain ⟨bb, hbb⟩ : ∃ bb, bb = decide (z ∈ P) := ⟨_, rfl⟩
            rw [← hbb] at hgt
            have HGT := Lib.hid hgt
            have HBB := Lib.hid hbb
            have HLE := Lib.hid HC.out.cnt.le
            have HSM : Hid (∀ x ∈ P.erase z, x < c) := Lib.hid fun x hx => HC.out.small x (List.mem_of_mem_erase hx)
            clear hcr hgt hbb hlen
            go_wp2_with fail
            refine HGT.out.mono ?_
            rintro e W3 ⟨rfl, hc3, ht3⟩
            obtain ⟨hb3, hr3⟩ := HC.out.boxT ht3
            have HC3 := Lib.hid hc3
            have HT3 := Lib.hid ht3
            have hgv := rgot_any c (.slice a n cp) P z W3 hr3 HLE.out
            rw [← HBB.out] at hgv
            have HGV := Lib.hid hgv
            have HB3 := Lib.hid hb3
            obtain ⟨c0, c1, f0, f1⟩ := box_c hb3
            clear hc3 ht3 hb3 hr3 hgv f0 f1
            go_wp2_with fail
            refine HGV.out.mono ?_
            rintro e W4 ⟨u', rfl, hu, hb4⟩
            obtain ⟨_, a', cp', rfl, _⟩ := id hu
            obtain ⟨n', hn'⟩ : ∃ n', n' = (P.erase z).length := ⟨_, rfl⟩
            rw [← hn'] at hu ⊢
            have hb4b := (hb4.block _ (lt_of_block HB3.out)).trans HB3.out
            have hb5 := hb4.trans ((below_alloc W4 (.cells #[.int .i64 c, .slice a' n' cp'] 52)).mono hb4.size)
            have hu5 : CutIn (fun b => W3.heap.size ≤ b) (W4.alloc (.cells #[.int .i64 c, .slice a' n' cp'] 52)) (.slice a' n' cp') (P.erase z) := ⟨hu.1.below (below_alloc W4 _), hu.2⟩
            have hfin := HC.out.turned HT3.out HC3.out hb5 hu5 HSM.out
            have hblk : (W4.alloc (.cells #[.int .i64 c, .slice a' n' cp'] 52)).heap[W4.heap.size]? = some (.cells #[.int .i64 c, .slice a' n' cp'] 52 (0, 0)) := heap_alloc_new W4 _
            have hb6b := (hb5.block _ (lt_of_block HB3.out)).trans HB3.out
            obtain ⟨W5, hW5⟩ : ∃ W5, W5 = W4.alloc (.cells #[.int .i64 c, .slice a' n' cp'] 52) := ⟨_, rfl⟩
            rw [← hW5] at hfin hblk hb6b
            have HW5 := Lib.hid hW5.symm
            obtain ⟨c0', c1', f0, f1⟩ := box_c hb6b
            obtain ⟨d0, d1, _, _⟩ := box_c hblk
            have HFIN := Lib.hid hfin
            clear hu hb4 hb4b hb5 hu5 hfin hblk hb6b hW5 hn' c0 c1
            go_upto_region 23 with fail
            rw [HW5.out]
            go_upto_region 24 with fail
            obtain ⟨W6, hW6⟩ : ∃ W6, W6 = (W5.setCell ⟨cb + 1, 0, none⟩ (.int .i64 c)).setCell ⟨cb + 1, 1, none⟩ (.slice a' n' cp') := ⟨_, rfl⟩
            rw [← hW6] at HFIN ⊢
            obtain ⟨e0, e1, _⟩ := HFIN.out.c3
            clear hW6 c0' c1' f0 f1 d0 d1
            cases bb
            all_goals
              go_wp2_with fail
              go_quiet ((go_at_call 31; exact pend_at HFIN.out _))
              go_wp2_with fail
              go_roundw
              case rel => exact ⟨k + 1, c, _, a', n', cp', by omega, by omega, by omega, by go_num, HFIN.out.drewN _⟩
              case measure => simp [intOf]; omega
        · obtain rfl : sl = k := by omega
          have HO := Lib.hid HC.out.old
          clear hcr
          go_wp2_with fail
          go_ret
          exact ⟨rfl, HO.out⟩
end Go.Proofs.Ytfijcdidcnfadaa.Head
