/-
  The walk of MailFirsts.
-/
import Derived.Test.YtdmhjdmeelpmjaaMailFirstsA
namespace Go.Proofs.Ytdmhjdmeelpmjaa.Mail
open Go.RowKit Go.Conc Go.Shelf
set_option linter.unusedVariables false

/-- What waits in each queue, when the first i are empty. -/
def stAt (L : List (List Int)) (i : Nat) (ys : List Int) (j : Nat) : List Int := if j < i then [] else if j = i then ys else L.getD j []
theorem stAt_zero (L : List (List Int)) (j : Nat) : stAt L 0 (L.getD 0 []) j = L.getD j [] := by
  unfold stAt
  rw [if_neg (by omega)]
  split
  · next h => rw [h]
  · rfl
theorem stAt_self (L : List (List Int)) (i : Nat) (ys : List Int) : stAt L i ys i = ys := by
  unfold stAt; rw [if_neg (by omega), if_pos rfl]
theorem stAt_lt (L : List (List Int)) (i : Nat) (ys : List Int) (j : Nat) (h : j < i) : stAt L i ys j = [] := by
  unfold stAt; rw [if_pos h]
theorem stAt_ne (L : List (List Int)) (i : Nat) (ys zs : List Int) (j : Nat) (h : j ≠ i) : stAt L i ys j = stAt L i zs j := by
  unfold stAt; rw [if_neg h, if_neg h]
theorem stAt_next (L : List (List Int)) (i j : Nat) : stAt L (i + 1) (L.getD (i + 1) []) j = stAt L i [] j := by
  unfold stAt
  by_cases h : j < i
  · rw [if_pos (by omega), if_pos h]
  · by_cases h2 : j = i
    · rw [if_pos (by omega), if_neg h, if_pos h2]
    · rw [if_neg (by omega), if_neg h, if_neg h2]
      split
      · next h3 => rw [h3]
      · rfl
/-- What the first loop knows: k rows have their queues. -/
def FirstRel (L : List (List Int)) (w : World) (v i : Value) (wr : World) : Prop :=
  ∃ (k : Nat) (cs : List Nat), k ≤ L.length ∧ cs.length = k ∧ i = .int .i64 k ∧ FQ w.heap.size w cs (fun j => L.getD j []) wr ∧ wr.ownsRow w.heap.size 24 1 v k (cs.map ptr) ∧ ∀ j, j < k → (L.getD j []).length ≤ 30
/-- What its inner loop knows: j of the row's things were put. -/
def PutRel (c m : Nat) (row : List Int) (w1 : World) (i : Value) (wr : World) : Prop :=
  ∃ j : Nat, j ≤ m ∧ i = .int .i64 j ∧ QAt wr c m (row.take j) false ∧ Below w1.heap.size w1 wr
/-- What the second loop knows: the first i queues are empty. -/
def TakeRel (L : List (List Int)) (cs : List Nat) (w : World) (v i : Value) (wr : World) : Prop :=
  ∃ k : Nat, k ≤ L.length ∧ i = .int .i64 k ∧ FQ w.heap.size w cs (stAt L k (L.getD k [])) wr ∧ wr.ownsRow w.heap.size 24 1 v L.length (cs.map ptr)
/-- What its inner loop knows: j things of row k were taken. -/
def TakeRel2 (L : List (List Int)) (cs : List Nat) (w : World) (v : Value) (k : Nat) (i : Value) (wr : World) : Prop :=
  ∃ j : Nat, j ≤ (L.getD k []).length ∧ i = .int .i64 j ∧ FQ w.heap.size w cs (stAt L k ((L.getD k []).drop j)) wr ∧ wr.ownsRow w.heap.size 24 1 v L.length (cs.map ptr)

set_option maxRecDepth 100000 in
set_option maxHeartbeats 4000000 in
theorem mailFirsts_walk (v : Value) (L : List (List Int)) (w : World) (hv : Open.RowsAt w v L) (hm : L.length ≤ maxLen) (hr : ∀ r ∈ L, r.length ≤ maxLen) :
    Calls Try.prog 6 #[v] w fun e W' => e = .returned (.bool true) ∧ Below w.heap.size w W' := by
  obtain ⟨a, cap, rfl, ha⟩ := hv
  obtain ⟨n, hn⟩ : ∃ n, n = L.length := ⟨_, rfl⟩
  obtain ⟨i0, hi, hz0, hz1, hz2⟩ := info_parts info_pQueue
  rw [← hn] at hm ⊢
  unfold maxLen at hm
  have HA := Lib.hid ha
  have HN := Lib.hid hn
  have HR := Lib.hid hr
  clear ha hn hr
  by_cases hbig : 8 < n
  · go_enter Try.func6, Try.ntmps6
    go_wp2_with (go_at_call 11; refine (alive_any _).mono ?_; rintro e w' ⟨rfl, hb⟩)
    go_ret
    exact ⟨rfl, hb⟩
  · have hle : n ≤ 8 := by omega
    have hd : decide ((8 : Int) < (n : Int)) = false := by simp; omega
    clear hbig
    go_enter Try.func6, Try.ntmps6
    go_wp2_with (go_at_call 11; refine (alive_any _).mono ?_; rintro e w1 ⟨rfl, hb1⟩)
    clear hd
    go_loopw [3, 27] (fun v i wr => FirstRel L w v i wr) (fun _ i _ => n - (intOf i).toNat)
    case atStart =>
      refine ⟨0, [], by omega, rfl, rfl, ⟨fun j hj => absurd hj (by simp), fun j hj => absurd hj (by simp), fun i j _ hj => absurd hj (by simp), hb1.alloc hb1.size _⟩, ?_, fun j hj => absurd hj (by omega)⟩
      have hs := hb1.size
      exact ⟨by simp, .inr ⟨w1.heap.size, 0, #[], rfl, hs, heap_alloc_new w1 _, by simp, by simp [maxLen], by simp, by simp⟩⟩
    case round =>
      obtain ⟨k, cs, hk, hcs, rfl, F, hown, h30⟩ := hrel
      by_cases hkn : k < n
      · obtain ⟨g, off, rfl, hg, hcells⟩ := HA.out (by intro e; have := HN.out; rw [e] at this; simp at this; omega)
        have hkL : k < L.length := by have := HN.out; omega
        obtain ⟨row, hrow⟩ : ∃ row, row = L[k] := ⟨_, rfl⟩
        have hLk : L[k]? = some row := by rw [hrow]; simp [hkL]
        obtain ⟨u, hu, hru⟩ := hcells k row hLk
        have d0 := (F.old.cell (p := ⟨g, off + k, none⟩) hg).trans hu
        have hlen : row.length ≤ maxLen := by rw [hrow]; exact HR.out _ (List.getElem_mem _)
        unfold maxLen at hlen
        obtain ⟨ra, rcap, rfl, hrc⟩ := hru
        obtain ⟨m, hmm⟩ : ∃ m, m = row.length := ⟨_, rfl⟩
        rw [← hmm] at hlen d0
        have HROW := Lib.hid hrc
        have HLK := Lib.hid hLk
        have HM := Lib.hid hmm
        have HF := Lib.hid F
        have H30 := Lib.hid h30
        clear hcells hu hrc hLk hmm F hrow h30
        by_cases h30 : 30 < m
        · go_wp2
          go_ret
          exact ⟨rfl, HF.out.old⟩
        · have h30d : decide ((30 : Int) < (m : Int)) = false := by simp; omega
          have h30m : m ≤ 30 := by omega
          clear h30
          go_wp2_with fail
          refine (new_any _ _).mono ?_
          rintro e w2 ⟨rfl, q2, b2, z2⟩
          clear h30d z2
          have hrm : roomOf m = m := by unfold roomOf; omega
          rw [hrm] at q2
          obtain ⟨wo, hwo⟩ : ∃ wo : World, wo = wr := ⟨_, rfl⟩
          rw [← hwo] at q2 b2 hown ⊢
          rw [← hwo] at HF
          have HWO := Lib.hid hwo
          clear hwo hrm d0
          go_wp2
          go_loopw [39] (fun i wr => PutRel wo.heap.size m row wo i wr) (fun i _ => m - (intOf i).toNat)
          case atStart => exact ⟨0, by omega, rfl, by simpa using q2, b2⟩
          case round =>
            obtain ⟨j, hj, rfl, q, hb⟩ := hrel
            clear q2 b2
            by_cases hjm : j < m
            · obtain ⟨b, off', rfl, hxc⟩ := HROW.out (by intro e; have := HM.out; rw [e] at this; simp at this; omega)
              obtain ⟨x, hx⟩ : ∃ x, x = row[j]?.getD 0 := ⟨_, rfl⟩
              have hxj := hxc j (by have := HM.out; omega)
              rw [← hx] at hxj
              have hbw := World.block_lt_of_cell? w _ hxj
              have hall : Below w.heap.size w ‹World› := HF.out.old.trans (hb.mono HF.out.old.size)
              have dx := (hall.cell (p := ⟨b, off' + j, none⟩) hbw).trans hxj
              have hput : putE m (row.take j) false = 0 := by
                unfold putE; rw [if_neg (by simp), if_pos (by rw [List.length_take]; omega)]
              have hputL : putL m (row.take j) false x = row.take (j + 1) := by
                unfold putL
                rw [if_neg (by simp), if_pos (by rw [List.length_take]; omega)]
                have hjr : j < row.length := by have := HM.out; omega
                rw [List.take_succ_eq_append_getElem hjr, hx]; simp [hjr]
              have HP := Lib.hid hput
              have HL := Lib.hid hputL
              have HBB := Lib.hid hb
              clear hxc hxj hx hput hputL hall hb hbw
              go_wp2_with fail
              refine (put_any _ _ _ _ _ _ q).mono ?_
              rintro e w3 ⟨rfl, q3, t3, z3⟩
              clear z3
              rw [HP.out]
              rw [HL.out] at q3
              have hb3 := HBB.out.trans (t3.below HBB.out.size (by unfold Of; omega))
              have HB3 := Lib.hid hb3
              clear q t3 dx hb3
              go_wp2
              go_roundw
              case rel => exact ⟨j + 1, by omega, by go_num, q3, HB3.out⟩
              case measure => simp [intOf]; omega
            · obtain rfl : j = m := by omega
              rw [List.take_of_length_le (by have := HM.out; omega)] at q
              have HBB := Lib.hid hb
              clear hb
              go_wp2_with fail
              refine (shut_any _ _ _ _ _ q).mono ?_
              rintro e w3 ⟨rfl, q3, t3, z3⟩
              clear z3
              have hb3 : Below wo.heap.size wo w3 := HBB.out.trans (t3.below HBB.out.size (by unfold Of; omega))
              have F3 : FQ w.heap.size w cs (fun j => L.getD j []) w3 := HF.out.below HF.out.old.size hb3
              have hcs' : ∀ i, i < cs.length → cs.getD i 0 + 2 ≤ wo.heap.size := fun i hi => by obtain ⟨r, q⟩ := HF.out.que i hi; have := q.lt; omega
              have hbz : w.heap.size ≤ wo.heap.size := HF.out.old.size
              have F4 : FQ w.heap.size w (cs ++ [wo.heap.size]) (fun j => L.getD j []) w3 := F3.more (st' := fun j => L.getD j []) q3 hbz hcs' (fun _ _ => rfl) (by rw [hcs]; have := HLK.out; simp [List.getD, this])
              have hown3 := ownsRow_below hown hb3
              have hbz3 : w.heap.size ≤ w3.heap.size := Nat.le_trans hbz hb3.size
              have h30' : ∀ i, i < k + 1 → (L.getD i []).length ≤ 30 := fun i hi => by
                by_cases hik : i < k
                · exact H30.out i hik
                · obtain rfl : i = k := by omega
                  have := HLK.out
                  simp only [List.getD, this, Option.getD_some]
                  have := HM.out
                  omega
              have HF4 := Lib.hid F4
              have H30' := Lib.hid h30'
              clear q q3 t3 hb3 F3 F4 hcs' h30' hown
              go_wp2_with (at_builtin; refine wpList_append_own _ rfl _ _ 26 rfl w.heap.size 24 i0 (.pointer none) 1 8 Try.underlying26 hi hz0 hz1 hz2 rfl (by decide) _ _ _ rfl (hown3.alloc _) ⟨w3.heap.size, 0, none⟩ 1 1 [ptr wo.heap.size] rfl rfl (cell_one_new _ _ _) (by simp [Value.oneCell', ptr]) (by unfold maxLen; omega) (by omega) (by simp; omega) ?_; intro v' w5 hown' hgrow _; have F5 := (HF4.out.below (wr' := w3.alloc (.cells #[ptr wo.heap.size] 24)) hbz3 ((Below.refl _ w3).alloc (Nat.le_refl _) _)).grown (hown3.alloc _) hgrow (by simp; omega); have HF5 := Lib.hid F5; clear F5 hgrow hown3)
              go_roundw
              case rel => exact ⟨k + 1, cs ++ [wo.heap.size], by omega, by simp [hcs], by go_num, HF5.out, by rw [List.map_append]; exact hown', H30'.out⟩
              case measure => simp [intOf]; omega
      · obtain rfl : k = n := by have := HN.out; omega
        have HF := Lib.hid F
        obtain ⟨a', cap', rfl, _⟩ := PtrsAt.of_owns hown hcs.symm
        rw [hcs] at hown ⊢
        have HC := Lib.hid hcs
        clear F h30 hcs
        go_wp2
        go_loopw [57] (fun i wr => TakeRel L cs w (.slice a' k cap') i wr) (fun i _ => k - (intOf i).toNat)
        case atStart =>
          exact ⟨0, by omega, rfl, HF.out.congr fun j _ => (stAt_zero L j), by rw [← HN.out]; exact hown⟩
        case round =>
          obtain ⟨i, hik, rfl, F, hown'⟩ := hrel
          rw [← HN.out] at hik hown'
          clear hown
          by_cases hin : i < k
          · obtain ⟨g, off, rfl, hg, hcells⟩ := HA.out (by intro e; have := HN.out; rw [e] at this; simp at this; omega)
            have hiL : i < L.length := by have := HN.out; omega
            obtain ⟨row, hrow⟩ : ∃ row, row = L[i] := ⟨_, rfl⟩
            have hLi : L[i]? = some row := by rw [hrow]; simp [hiL]
            have hgd : L.getD i [] = row := by simp [List.getD, hLi]
            obtain ⟨u, hu, hru⟩ := hcells i row hLi
            have d0 := (F.old.cell (p := ⟨g, off + i, none⟩) hg).trans hu
            have hlen : row.length ≤ maxLen := by rw [hrow]; exact HR.out _ (List.getElem_mem _)
            unfold maxLen at hlen
            obtain ⟨ra, rcap, rfl, hrc⟩ := hru
            obtain ⟨m, hmm⟩ : ∃ m, m = row.length := ⟨_, rfl⟩
            rw [← hmm] at hlen d0
            have HROW := Lib.hid hrc
            have HGD := Lib.hid hgd
            have HM := Lib.hid hmm
            have HFF := Lib.hid F
            clear hcells hu hrc hLi hmm F hrow hgd
            obtain ⟨wo, hwo⟩ : ∃ wo : World, wo = wr := ⟨_, rfl⟩
            rw [← hwo] at HFF hown' d0 ⊢
            clear hwo
            go_wp2
            go_loopw [64] (fun j wr => TakeRel2 L cs w (.slice a' k cap') i j wr) (fun j _ => m - (intOf j).toNat)
            case atStart => exact ⟨0, by omega, rfl, by simpa using HFF.out, by rw [← HN.out]; exact hown'⟩
            case round =>
              obtain ⟨j, hj, rfl, F, hown2⟩ := hrel
              rw [HGD.out] at hj F
              rw [← HN.out] at hown2
              rw [← HM.out] at hj
              clear hown' d0
              have hp := PtrsAt.of_owns hown2 HC.out.symm
              by_cases hjm : j < m
              · obtain ⟨b, off', rfl, hxc⟩ := HROW.out (by intro e; have := HM.out; rw [e] at this; simp at this; omega)
                have hjr : j < row.length := by have := HM.out; omega
                obtain ⟨x, hx⟩ : ∃ x, x = row[j]?.getD 0 := ⟨_, rfl⟩
                have hxj := hxc j hjr
                rw [← hx] at hxj
                have hbw := World.block_lt_of_cell? w _ hxj
                have dx := (F.old.cell (p := ⟨b, off' + j, none⟩) hbw).trans hxj
                have hdr : row.drop j = x :: row.drop (j + 1) := by rw [List.drop_eq_getElem_cons hjr, hx]; simp [hjr]
                have hic : i < cs.length := by rw [HC.out]; exact hin
                obtain ⟨r, q⟩ := F.que i hic
                rw [stAt_self, hdr] at q
                have hfs := first_some _ cs i r x _ true _ hp hic (by rw [HC.out]; omega) (fun l hl => by obtain ⟨r, q⟩ := F.que l (by omega); rw [stAt_lt _ _ _ _ hl] at q; exact ⟨r, true, q⟩) q
                have HFS := Lib.hid F
                have HIC := Lib.hid hic
                have HQ := Lib.hid q
                clear hxc hxj hbw hdr hx F hic q hp
                go_wp2_with fail
                refine hfs.mono ?_
                rintro e w3 ⟨rfl, q3, t3, z3⟩
                have F3 := HFS.out.turn (st' := stAt L i (row.drop (j + 1))) HIC.out q3 t3 HFS.out.old.size (fun l _ hli => stAt_ne _ _ _ _ _ hli) (stAt_self _ _ _)
                have hown3 := ownsRow_turn hown2 HQ.out t3
                have HF3 := Lib.hid F3
                clear z3 F3 q3 t3 hown2
                go_wp2
                go_roundw
                case rel => exact ⟨j + 1, by rw [HGD.out, ← HM.out]; omega, by go_num, by rw [HGD.out]; exact HF3.out, by rw [← HN.out]; exact hown3⟩
                case measure => simp [intOf]; omega
              · obtain rfl : j = m := by omega
                rw [List.drop_of_length_le (by have := HM.out; omega)] at F
                have hic : i < cs.length := by rw [HC.out]; exact hin
                obtain ⟨r, q⟩ := F.que i hic
                rw [stAt_self] at q
                obtain ⟨a2, cap2, heq, hpc⟩ := hp
                obtain ⟨g2, off2, rfl, hpi⟩ := hpc (by intro e; rw [e] at hic; simp at hic)
                simp only [Value.slice.injEq] at heq
                obtain ⟨rfl, hkk, rfl⟩ := heq
                clear hkk
                have dq := hpi i hic
                have F2 : FQ w.heap.size w cs (stAt L (i + 1) (L.getD (i + 1) [])) ‹World› := F.congr fun l _ => stAt_next L i l
                have HF2 := Lib.hid F2
                clear hpi hic F2 F hpc
                obtain ⟨cq, hcq⟩ : ∃ cq, cq = cs.getD i 0 := ⟨_, rfl⟩
                rw [← hcq] at dq q
                clear hcq
                go_wp2_with (go_at_call 18; refine (over_any _ _ _ _ _ q).mono ?_; rintro e w' ⟨rfl, rfl⟩)
                go_roundw
                case rel => exact ⟨i + 1, by rw [← HN.out]; omega, by go_num, HF2.out, by rw [← HN.out]; exact hown2⟩
                case measure => simp [intOf]; omega
          · obtain rfl : i = k := by omega
            have hp := PtrsAt.of_owns hown' HC.out.symm
            have hfn := first_none _ cs _ hp (by rw [HC.out]; omega) (fun l hl => by obtain ⟨r, q⟩ := F.que l hl; rw [stAt_lt _ _ _ _ (by rw [← HC.out]; exact hl)] at q; exact ⟨r, true, q⟩)
            have HFF := Lib.hid F
            clear F hp hown'
            go_wp2_with fail
            refine hfn.mono ?_
            rintro e w3 ⟨rfl, rfl⟩
            go_wp2
            go_ret
            exact ⟨rfl, HFF.out.old⟩
/-- The walk, as the frame wants it. -/
theorem mailFirsts_law {w : World} (v : Value) (L : List (List Int)) (h : Open.RowsAt w v L ∧ L.length ≤ maxLen ∧ ∀ r ∈ L, r.length ≤ maxLen ∧ ∀ n ∈ r, Open.I64 n) :
    Calls Try.prog 6 #[v] w fun e W' => e = .returned (.bool true) ∧ Below w.heap.size w W' :=
  mailFirsts_walk v L w h.1 h.2.1 fun r hr => (h.2.2 r hr).1
end Go.Proofs.Ytdmhjdmeelpmjaa.Mail
