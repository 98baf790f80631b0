/-
  Plain bytes that stand together.
-/
import Derived.Test.YtjeknociobbhpaaDoorOrdE
namespace Go.Proofs.YtjeknociobbhpaaDoor.Ord
open Go.RowKit Base
set_option linter.unusedVariables false
set_option linter.unusedSimpArgs false

def dataL (L : List Int) (i : Nat) : List Int := (L.drop i).takeWhile plain
theorem dataL_stop (L : List Int) : ∀ (k i : Nat), i + k ≤ L.length → (∀ q, i ≤ q → q < i + k → plain (L[q]?.getD 0) = true) → (i + k = L.length ∨ plain (L[i + k]?.getD 0) = false) → dataL L i = (L.drop i).take k
  | 0, i, hle, _, hs => by
    unfold dataL
    rw [List.take_zero]
    rcases Nat.lt_or_ge i L.length with hi | hi
    · rw [List.drop_eq_getElem_cons hi, List.takeWhile_cons_of_neg]
      rcases hs with h | h
      · omega
      · simpa [hi] using h
    · rw [List.drop_eq_nil_of_le hi]; rfl
  | k + 1, i, hle, ha, hs => by
    have hi : i < L.length := by omega
    have hp := ha i (Nat.le_refl _) (by omega)
    have ih := dataL_stop L k (i + 1) (by omega) (fun q h1 h2 => ha q (by omega) (by omega)) (by rw [show i + 1 + k = i + (k + 1) by omega]; exact hs)
    unfold dataL at ih ⊢
    rw [List.drop_eq_getElem_cons hi, List.takeWhile_cons_of_pos (by simpa [hi] using hp), ih, List.take_succ_cons]
theorem plain_quiet (b : Int) (w : World) (n : Nat) : Calls Tryd.prog 13 #[.int .u8 b] (w.drewN n) fun e w' => e = .returned (.bool (plain b)) ∧ ∃ m, w' = w.drewN m :=
  (plain_any b _).mono fun e w' ⟨h1, h2⟩ => ⟨h1, n, h2.symm⟩
structure DR (w : World) (b : Nat) (a : Option Addr) (cap : Nat) (L : List Int) (i j : Nat) (wr : World) : Prop where
  rd : Rdr wr b a cap L j
  le : i ≤ j
  all : ∀ q, i ≤ q → q < j → plain (L[q]?.getD 0) = true
  t : Turn (At b) w wr
def DRel (w : World) (b : Nat) (a : Option Addr) (cap : Nat) (L : List Int) (i : Nat) (wr : World) : Prop := ∃ j, DR w b a cap L i j wr
def dm (b n : Nat) (wr : World) : Nat := n - (match wr.cell? ⟨b, 1, none⟩ with | some (.int _ k) => k.toNat | _ => 0)
theorem Rdr.dm {w : World} {b : Nat} {a : Option Addr} {cap : Nat} {L : List Int} {i : Nat} (h : Rdr w b a cap L i) (n : Nat) : dm b n w = n - i := by
  unfold Ord.dm; rw [h.cells.2.1]; simp
theorem sub_row {S : Nat → Prop} {w : World} {g off c c' i j : Nat} {L : List Int} (h : RowIn S .u8 w (.slice (some ⟨g, off, none⟩) L.length c) L) (hj : i ≤ j) (hl : j ≤ L.length) : RowOf .u8 w (.slice (some ⟨g, off + i, none⟩) (j - i) c') ((L.drop i).take (j - i)) := by
  have hlen : ((L.drop i).take (j - i)).length = j - i := by rw [List.length_take, List.length_drop]; omega
  refine ⟨_, c', by rw [hlen], fun hne => ?_⟩
  obtain ⟨a', c2, e, hr⟩ := h
  injection e with e1 e2 e3
  obtain ⟨g', off', rfl, _, _, hc⟩ := hr (by intro e; rw [e] at hl hne; simp at hne)
  injection e1 with e1
  injection e1 with e1 e4 _
  subst e1 e4
  refine ⟨g, off + i, rfl, fun q hq => ?_⟩
  rw [hlen] at hq
  have := hc (i + q) (by omega)
  rw [show off + i + q = off + (i + q) by omega, this]
  congr 3
  rw [List.getElem?_take_of_lt hq, List.getElem?_drop]
section
variable {w w' : World} {b : Nat} {a : Option Addr} {cap : Nat} {L : List Int} {i : Nat}
set_option maxRecDepth 100000 in
set_option maxHeartbeats 2000000 in
theorem data_any (h : Rdr w b a cap L i) (hi : i < L.length) (hp : plain (L[i]?.getD 0) = true) :
    Calls Tryd.prog 34 #[.pointer (some ⟨b, 0, none⟩)] w fun e w' => ∃ V, e = .returned V ∧ OwnBytes w.heap.size w' V (dataL L i) ∧ Rdr w' b a cap L (i + (dataL L i).length) ∧ Turn (At b) w w' := by
  obtain ⟨n, hn⟩ : ∃ n, n = L.length := ⟨_, rfl⟩
  obtain ⟨g, off, _, rfl, _⟩ := h.byte hi
  have HN := Lib.hid hn
  have D0 := Lib.hid (show DR w b (some ⟨g, off, none⟩) cap L i i w from ⟨h, Nat.le_refl _, fun q h1 h2 => absurd h1 (by omega), Turn.refl _ _⟩)
  have HI : Hid (i < n) := Lib.hid (by omega)
  have HP := Lib.hid hp
  have hmx := h.mx
  have hcp := h.cp
  obtain ⟨c0, c1, fz⟩ := h.cells
  have HB := Lib.hid (lt_of_block h.box)
  rw [← hn] at hmx hcp c0
  clear hn hi hp h fz
  go_enter Tryd.func34, Tryd.ntmps34
  go_upto_region 2 with fail
  clear c0 c1
  go_loopw [] (fun wr => DRel w b (some ⟨g, off, none⟩) cap L i wr) (fun wr => dm b n wr)
  case atStart => exact ⟨i, D0.out⟩
  case round =>
    obtain ⟨j, hD⟩ := hrel
    obtain ⟨c0, c1, fz⟩ := hD.rd.cells
    have hjle := hD.rd.le
    rw [← HN.out] at c0 hjle
    have f1 := fz 1
    have HD := Lib.hid hD
    have HDM := Lib.hid (hD.rd.dm n)
    clear hD fz D0
    by_cases hjn : j < n
    · have hjni : (j : Int) < (n : Int) := by omega
      have hj0 : (0 : Int) ≤ (j : Int) := Int.natCast_nonneg _
      obtain ⟨g', off', x, e, hx, x0, x1, hc⟩ := HD.out.rd.byte (by rw [← HN.out]; exact hjn)
      injection e with e
      injection e with e1 e2 _
      subst e1 e2
      have HX := Lib.hid hx
      by_cases hpl : plain x = true
      · have HPL := Lib.hid hpl
        clear hx hpl
        go_upto_region 2 with fail
        go_quiet ((go_at_call 13; exact plain_quiet _ _ _))
        rw [HPL.out]
        have hset := Lib.hid ((HD.out.rd.drewN nq).set (j + 1) (by rw [← HN.out]; exact hjn))
        go_wp2_with fail
        go_roundw
        case rel =>
          refine ⟨j + 1, hset.out, by have := HD.out.le; omega, fun q h1 h2 => ?_, (HD.out.t.trans (Turn.of_below (below_drewN (Below.refl _ _) _))).trans (turn_set _ b 1 _)⟩
          by_cases hqj : q < j
          · exact HD.out.all q h1 hqj
          · obtain rfl : q = j := by omega
            rw [HX.out]; exact HPL.out
        case measure =>
          have hq : dm b n ((wr.drewN nq).setCell ⟨b, 1, none⟩ (.int .i64 ((j : Int) + 1))) = n - (j + 1) := hset.out.dm n
          rw [HDM.out, hq]; omega
      · have HPL : Hid (plain x = false) := Lib.hid (by simpa using hpl)
        clear hx hpl
        go_upto_region 2 with fail
        go_quiet ((go_at_call 13; exact plain_quiet _ _ _))
        rw [HPL.out]
        go_upto_region 4 with fail
        have hk := dataL_stop L (j - i) i (by have := HD.out.le; have := HN.out; omega) (fun q h1 h2 => HD.out.all q h1 (by have := HD.out.le; omega)) (by rw [show i + (j - i) = j by have := HD.out.le; omega]; exact .inr (by rw [HX.out]; exact HPL.out))
        have hij : i < j := by
          have := HD.out.le
          rcases Nat.lt_or_ge i j with h | h
          · exact h
          · obtain rfl : i = j := by omega
            exact absurd HP.out (by rw [HX.out, HPL.out]; simp)
        have hlen : (dataL L i).length = j - i := by rw [hk, List.length_take, List.length_drop]; have := HN.out; omega
        obtain ⟨W4, hW4⟩ : ∃ W4, W4 = wr.drewN nq := ⟨_, rfl⟩
        have rd4 : Rdr W4 b (some ⟨g, off, none⟩) cap L j := by rw [hW4]; exact HD.out.rd.drewN nq
        have t4 : Turn (At b) w W4 := by rw [hW4]; exact HD.out.t.trans (Turn.of_below (below_drewN (Below.refl _ _) _))
        rw [← hW4]
        obtain ⟨c40, c41, _⟩ := rd4.cells
        rw [← HN.out] at c40
        have hrow : RowOf .u8 W4.drew (.slice (some ⟨g, off + i, none⟩) (j - i) (cap - i)) (dataL L i) := by
          rw [hk]
          have hsub : RowOf .u8 W4 (.slice (some ⟨g, off + i, none⟩) (j - i) (cap - i)) ((L.drop i).take (j - i)) := sub_row (c := cap) rd4.row (Nat.le_of_lt hij) rd4.le
          exact hsub
        have HR := Lib.hid hrow
        have R4 := Lib.hid rd4
        have T4 := Lib.hid t4
        have HLEN := Lib.hid hlen
        have s1 : (i : Int) ≤ (j : Int) := by omega
        have s2 : (j : Int) ≤ (cap : Int) := by omega
        have s3 : (0 : Int) ≤ (i : Int) := Int.natCast_nonneg _
        have s4 : ¬ cap = i := by omega
        clear hW4 rd4 t4 hrow hk hlen c0 c1 f1 HDM
        go_region_law (refine step_append_row (by rfl) _ _ (by rfl) (OwnBytes.nil W4.heap.size W4.drew) HR.out (fun _ _ h => by cases h) (by rfl) (by rfl) (by have := HLEN.out; simp; omega) (Nat.le_refl _) (w0 := W4) (Below.refl _ W4).drew ?_; intro p w2 hown hold _ _)
        all_goals
          have HO := Lib.hid hown
          have HB2 := Lib.hid hold
          clear hown hold
          go_wp2_with fail
          go_ret
          refine ⟨_, rfl, HO.out.lower T4.out.size, ?_, T4.out.trans (Turn.of_below HB2.out)⟩
          rw [show i + (dataL L i).length = j by have := HLEN.out; omega]
          exact R4.out.below HB2.out
    · obtain rfl : j = n := by omega
      go_upto_region 2 with fail
      go_quiet (fail)
      go_upto_region 4 with fail
      have hk := dataL_stop L (j - i) i (by have := HD.out.le; have := HN.out; omega) (fun q h1 h2 => HD.out.all q h1 (by have := HD.out.le; omega)) (by rw [show i + (j - i) = j by have := HD.out.le; omega]; exact .inl HN.out)
      have hij : i < j := by
        have := HD.out.le
        rcases Nat.lt_or_ge i j with h | h
        · exact h
        · obtain rfl : i = j := by omega
          exact absurd HI.out (by omega)
      have hlen : (dataL L i).length = j - i := by rw [hk, List.length_take, List.length_drop]; have := HN.out; omega
      obtain ⟨W4, hW4⟩ : ∃ W4, W4 = wr.drewN nq := ⟨_, rfl⟩
      have rd4 : Rdr W4 b (some ⟨g, off, none⟩) cap L j := by rw [hW4]; exact HD.out.rd.drewN nq
      have t4 : Turn (At b) w W4 := by rw [hW4]; exact HD.out.t.trans (Turn.of_below (below_drewN (Below.refl _ _) _))
      rw [← hW4]
      obtain ⟨c40, c41, _⟩ := rd4.cells
      rw [← HN.out] at c40
      have hrow : RowOf .u8 W4.drew (.slice (some ⟨g, off + i, none⟩) (j - i) (cap - i)) (dataL L i) := by
        rw [hk]
        have hsub : RowOf .u8 W4 (.slice (some ⟨g, off + i, none⟩) (j - i) (cap - i)) ((L.drop i).take (j - i)) := sub_row (c := cap) rd4.row (Nat.le_of_lt hij) rd4.le
        exact hsub
      have HR := Lib.hid hrow
      have R4 := Lib.hid rd4
      have T4 := Lib.hid t4
      have HLEN := Lib.hid hlen
      have s1 : (i : Int) ≤ (j : Int) := by omega
      have s2 : (j : Int) ≤ (cap : Int) := by omega
      have s3 : (0 : Int) ≤ (i : Int) := Int.natCast_nonneg _
      have s4 : ¬ cap = i := by omega
      clear hW4 rd4 t4 hrow hk hlen c0 c1 f1 HDM
      go_region_law (refine step_append_row (by rfl) _ _ (by rfl) (OwnBytes.nil W4.heap.size W4.drew) HR.out (fun _ _ h => by cases h) (by rfl) (by rfl) (by have := HLEN.out; simp; omega) (Nat.le_refl _) (w0 := W4) (Below.refl _ W4).drew ?_; intro p w2 hown hold _ _)
      all_goals
        have HO := Lib.hid hown
        have HB2 := Lib.hid hold
        clear hown hold
        go_wp2_with fail
        go_ret
        refine ⟨_, rfl, HO.out.lower T4.out.size, ?_, T4.out.trans (Turn.of_below HB2.out)⟩
        rw [show i + (dataL L i).length = j by have := HLEN.out; omega]
        exact R4.out.below HB2.out
end
end Go.Proofs.YtjeknociobbhpaaDoor.Ord
