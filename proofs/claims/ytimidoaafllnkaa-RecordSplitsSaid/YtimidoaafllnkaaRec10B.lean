/-
  The reference's records of events: its contract.
-/
import Derived.Test.YtimidoaafllnkaaRec10A
import Derived.Test.YtimidoaafllnkaaRefB
import Derived.Test.YtimidoaafllnkaaJoinA
import Derived.Test.YtimidoaafllnkaaCutGen
namespace Go.Proofs.Ytimidoaafllnkaa.Rec
open Go.RowKit Base Iac
set_option linter.unusedVariables false

/-- A record of the reference: its bytes, is it long, and where they are. -/
abbrev RP10 := List Int × Bool × Value
def rC (P : List RP10) : List Value := P.flatMap fun p => [p.2.2, .bool p.2.1]
theorem rC_append (P Q : List RP10) : rC (P ++ Q) = rC P ++ rC Q := by simp [rC]
theorem info_rec10 : (Try.prog.info? 96).map (fun i => (i.zero, i.size, i.bytes)) = some (some (.agg #[.slice none 0 0, .bool false]), 2, 32) := by kernel_rfl
structure RecOwn (s : Nat) (w : World) (v : Value) (P : List RP10) : Prop where
  row : w.ownsRow s 96 2 v P.length (rC P)
  own : ∀ p ∈ P, OwnBytes s w p.2.2 p.1
section
variable {s : Nat} {w w' : World} {v : Value} {P : List RP10}
theorem rec_ne {s' : Nat} {u : Value} {n : Nat} {xs : List Value} {L : List Int} (h : w.ownsRow s 96 2 v n xs) (k : OwnBytes s' w u L) : ∀ g, v.ownBlock = some g → u.ownBlock = some g → False := by
  intro g e1 e2
  obtain ⟨c, fz, h1⟩ := Lib.ownsRow_kind h g e1
  obtain ⟨c', fz', h2⟩ := Lib.ownsRow_kind k g e2
  rw [h1] at h2
  cases h2
theorem RecOwn.below (h : RecOwn s w v P) (t : Below w.heap.size w w') : RecOwn s w' v P :=
  ⟨ownsRow_keep h.row fun g _ _ hl => t.block g hl, fun p hp => (h.own p hp).below t⟩
theorem RecOwn.form (h : RecOwn s w v P) : ∃ a cap, v = .slice a P.length cap := by
  rcases h.row.2 with ⟨rfl, h0⟩ | ⟨g, cap, cur, rfl, _⟩
  · exact ⟨none, 0, by rw [h0]⟩
  · exact ⟨_, _, rfl⟩
theorem RecOwn.grown {w1 : World} {v' u : Value} {L : List Int} {b : Bool} {o : Obj} (h : RecOwn s w v P) (hu : OwnBytes s w u L) (hown : w1.ownsRow s 96 2 v' (P.length + 1) (rC P ++ [u, .bool b])) (hg : (w.alloc o).grownBy w1 v.ownBlock) : RecOwn s w1 v' (P ++ [(L, b, u)]) := by
  have hk : ∀ {q : Value} {M : List Int}, OwnBytes s w q M → OwnBytes s w1 q M := fun {q M} hq => by
    refine ownsRow_keep hq fun g hqg _ hl => ?_
    exact (hg.block g (by rw [World.size_alloc]; omega) fun ee => rec_ne h.row hq g ee.symm hqg).trans (Below.heap_alloc _ _ _ hl)
  refine ⟨by rw [List.length_append, rC_append]; exact hown, fun p hp => ?_⟩
  rcases List.mem_append.1 hp with hp | hp
  · exact hk (h.own p hp)
  · rw [List.mem_singleton.1 hp]; exact hk hu
end
theorem rec_cl (w : World) (u : Value) (b : Bool) : ∀ (j : Nat) (y : Value), ([u, .bool b] : List Value)[j]? = some y → (w.alloc (.cells #[u, .bool b] 96)).cell? ((⟨w.heap.size, 0, none⟩ : Addr).add j) = some y := by
  intro j y hy
  match j, hy with
  | 0, hy => simp at hy; subst hy; simp [go_sem, Addr.add]
  | 1, hy => simp at hy; subst hy; simp [go_sem, Addr.add]
theorem rec0 {s : Nat} {w : World} (h : s ≤ w.heap.size) : RecOwn s (w.alloc (.cells #[] 96)) (.slice (some ⟨w.heap.size, 0, none⟩) 0 0) [] :=
  ⟨⟨rfl, .inr ⟨w.heap.size, 0, #[], rfl, h, heap_alloc_new w _, by simp, by simp [maxLen], rfl, by simp [rC]⟩⟩, by simp⟩
/-! ### Plainly -/
def st10 (S : List (List Int × Bool) × List Int) (e : Ev) : List (List Int × Bool) × List Int :=
  if e.kind = 1 then (S.1, S.2 ++ e.bytes) else if e.kind = 2 then (S.1 ++ [if 8192 < S.2.length then ([], true) else (S.2, false)], []) else S
def run10 (L : List Ev) : List (List Int × Bool) × List Int := L.foldl st10 ([], [])
theorem run10_snoc (L : List Ev) (e : Ev) : run10 (L ++ [e]) = st10 (run10 L) e := by simp [run10]
theorem tot_take (L : List Ev) (k : Nat) : totE (L.take k) ≤ totE L := by
  have : totE L = totE (L.take k) + totE (L.drop k) := by rw [← totE_append, List.take_append_drop]
  omega
def All10 (s n : Nat) (L : List Ev) (w : World) (v b i : Value) (wr : World) : Prop :=
  ∃ (k : Nat) (P : List RP10) (B : List Int), k ≤ n ∧ i = .int .i64 k ∧ run10 (L.take k) = (P.map (fun p => (p.1, p.2.1)), B) ∧ RecOwn s wr v P ∧ OwnBytes s wr b B ∧ Below s w wr ∧ P.length ≤ k ∧ B.length ≤ totE (L.take k) ∧ s ≤ wr.heap.size
set_option maxRecDepth 100000 in
set_option maxHeartbeats 8000000 in
theorem rall_any (v : Value) (L : List Ev) (w : World) (h : EvsAt w v L) (hl : L.length ≤ 10000) (hb : totE L ≤ 900000) :
    Calls Try.prog 60 #[v] w fun e w' => ∃ u b P, e = .returned (.tuple #[u, b]) ∧ RecOwn w.heap.size w' u P ∧ OwnBytes w.heap.size w' b (run10 L).2 ∧ P.map (fun p => (p.1, p.2.1)) = (run10 L).1 ∧ P.length ≤ L.length ∧ Below w.heap.size w w' := by
  obtain ⟨i0, hi, hz0, hz1, hz2⟩ := info_parts info_rec10
  obtain ⟨a, cap, rfl, hrow⟩ := h
  obtain ⟨n, hn⟩ : ∃ n, n = L.length := ⟨_, rfl⟩
  have HN := Lib.hid hn
  have HROW := Lib.hid hrow
  have HBT := Lib.hid hb
  have b1 := below_alloc w (.cells #[] 96)
  have r1 := rec0 (s := w.heap.size) (w := w) (Nat.le_refl _)
  have z1 := World.size_alloc w (.cells #[] 96)
  obtain ⟨W1, hW1⟩ : ∃ W1, W1 = w.alloc (.cells #[] 96) := ⟨_, rfl⟩
  rw [← hW1] at b1 r1 z1
  have b2 := below_alloc W1 (.cells #[] 5)
  have o2 := own0 (s := w.heap.size) (w := W1) (by omega)
  have z2 := World.size_alloc W1 (.cells #[] 5)
  obtain ⟨W2, hW2⟩ : ∃ W2, W2 = W1.alloc (.cells #[] 5) := ⟨_, rfl⟩
  rw [← hW2] at b2 o2 z2
  rw [z1] at o2
  obtain ⟨s, hs⟩ : ∃ s, s = w.heap.size := ⟨_, rfl⟩
  have b12 := b1.trans (b2.mono b1.size)
  have r2 := r1.below b2
  rw [← hs] at o2 r2 b12
  have hs2 : s ≤ W2.heap.size := by omega
  have HO2 := Lib.hid o2
  have HR2 := Lib.hid r2
  have HB2 := Lib.hid b12
  have HW1 := Lib.hid hW1.symm
  have HW2 := Lib.hid hW2.symm
  have HS := Lib.hid hs.symm
  have HSE := Lib.hid hs
  rw [← hn] at hl ⊢
  rw [← hs]
  clear hn hrow hb b1 r1 z1 hW1 b2 o2 z2 hW2 b12 r2 hs
  go_enter Try.func60, Try.ntmps60
  go_upto_region 3 with fail
  rw [HW1.out, HW2.out, HS.out]
  go_wp2_with fail
  go_loopw [4, 5, 6] (fun v b i wr => All10 s n L w v b i wr) (fun _ _ i _ => n - (intOf i).toNat)
  case atStart => exact ⟨0, [], [], by omega, rfl, rfl, HR2.out, HO2.out, HB2.out, by simp, by simp, hs2⟩
  case round =>
    obtain ⟨k, P, B, hk, rfl, hrun, hP, hB, hbl, hpk, hBt, hsz⟩ := hrel
    have HRUN := Lib.hid hrun
    have HP := Lib.hid hP
    have HB := Lib.hid hB
    have HBL := Lib.hid hbl
    have HBT2 := Lib.hid hBt
    obtain ⟨pa, pc, rfl⟩ := hP.form
    obtain ⟨ba, bc, rfl⟩ := hB.slice
    have hraw := hP.row
    obtain ⟨bl, hbl2⟩ : ∃ bl, bl = B.length := ⟨_, rfl⟩
    obtain ⟨pl, hpl2⟩ : ∃ pl, pl = P.length := ⟨_, rfl⟩
    have HBLN := Lib.hid hbl2
    have HPLN := Lib.hid hpl2
    rw [← hpl2] at HP hraw hpk
    rw [← hbl2] at HB
    rw [← hpl2, ← hbl2]
    have HBM : Hid (bl ≤ 900000) := Lib.hid (by have := tot_take L k; have := HBT.out; omega)
    clear hrun hP hB hbl hBt hbl2 hpl2
    by_cases hkn : k < n
    · have hkl : k < L.length := by rw [← HN.out]; exact hkn
      obtain ⟨g, off, rfl, hgl, hc⟩ := HROW.out (by intro e; rw [e] at hkl; simp at hkl)
      obtain ⟨q, hq⟩ : ∃ q, L[k]? = some q := ⟨_, List.getElem?_eq_getElem hkl⟩
      have htk : L.take (k + 1) = L.take k ++ [q] := by rw [List.take_add_one, hq]; rfl
      obtain ⟨u, d0, d1, d2, d3, hu⟩ := hc k q hq
      have hgs : g < s := by rw [HSE.out]; exact hgl
      have HD0 : Hid (∀ W, Below s w W → W.cell? ⟨g, off + k * 4, none⟩ = some (.int .i64 q.kind)) := Lib.hid fun W hb => (hb.cell (p := ⟨g, off + k * 4, none⟩) hgs).trans d0
      have d0 := (HBL.out.cell (p := ⟨g, off + k * 4, none⟩) hgs).trans d0
      have d3 := (HBL.out.cell (p := ⟨g, off + k * 4 + 3, none⟩) hgs).trans d3
      obtain ⟨kd, cd, op, bs⟩ := q
      simp only at d0 d3 hu HD0
      have HU := Lib.hid (hu.below (show Below w.heap.size w wr by rw [HS.out]; exact HBL.out))
      obtain ⟨ua, ul, uc, rfl⟩ : ∃ ua ul uc, u = .slice ua ul uc := by
        obtain ⟨a', c', e', _⟩ := hu
        exact ⟨a', _, c', e'⟩
      have HTT : Hid (totE (L.take (k + 1)) = totE (L.take k) + bs.length) := Lib.hid (by rw [htk, totE_append]; simp [totE])
      have HTK : Hid (run10 (L.take (k + 1)) = st10 (run10 (L.take k)) ⟨kd, cd, op, bs⟩) := Lib.hid (by rw [htk, run10_snoc])
      have HMX : Hid (totE (L.take (k + 1)) ≤ 900000) := Lib.hid (Nat.le_trans (tot_take L _) HBT.out)
      have ik : (0 : Int) ≤ (k : Int) := Int.natCast_nonneg _
      have ikn : (k : Int) < (n : Int) := by omega
      clear hc hq hu hkl htk d1 d2 hgl
      by_cases k1 : kd = 1
      · subst k1
        have hr8 := rows8_two wr _ _ _ _ HB.out.row HU.out
        have HR8 := Lib.hid hr8
        have hb8 := below_alloc wr (.cells #[.slice ba bl bc, .slice ua ul uc] 24)
        have HB8 := Lib.hid hb8
        clear hr8 hb8
        go_wp2_with fail
        refine (rjoin_any _ _ _ HR8.out (by simp) (by simp only [List.flatten_cons, List.flatten_nil, List.append_nil, List.length_append]; have := HMX.out; have := HTT.out; have := HBT2.out; omega)).mono ?_
        rintro e w5 ⟨p, rfl, hp, hb5⟩
        have hbb := HB8.out.trans (hb5.mono HB8.out.size)
        have HP5 := Lib.hid (HP.out.below hbb)
        have HO5 := Lib.hid (hp.lower (Nat.le_trans hsz HB8.out.size))
        have HB5 := Lib.hid (HBL.out.trans (hbb.mono hsz))
        have hs5 : s ≤ w5.heap.size := Nat.le_trans hsz hbb.size
        simp only [List.flatten_cons, List.flatten_nil, List.append_nil] at HO5
        clear hp hb5 hbb
        have d0 := HD0.out w5 HB5.out
        obtain ⟨qa, qc, rfl⟩ := HO5.out.slice
        obtain ⟨lq, hlq⟩ : ∃ lq, lq = (B ++ bs).length := ⟨_, rfl⟩
        rw [← hlq] at HO5 ⊢
        clear hlq
        go_wp2_with fail
        go_roundw
        case rel => exact ⟨k + 1, P, B ++ bs, by omega, by go_num, by rw [HTK.out, HRUN.out]; rfl, HP5.out, HO5.out, HB5.out, by have := HPLN.out; omega, by rw [HTT.out, List.length_append]; have := HBT2.out; omega, hs5⟩
        case measure => simp [intOf]; omega
      · by_cases k2 : kd = 2
        · subst k2
          clear k1
          by_cases hbig : 8192 < bl
          · have hbi : (8192 : Int) < bl := by omega
            have HCL := Lib.hid (rec_cl wr (.slice none 0 0) true)
            go_wp2_with (at_builtin; refine wpList_append_own _ rfl _ _ 90 rfl s 96 i0 (.agg #[.slice none 0 0, .bool false]) 2 32 Try.underlying90 hi hz0 hz1 hz2 rfl (by decide) _ _ _ rfl (hraw.alloc _) ⟨wr.heap.size, 0, none⟩ 1 1 [.slice none 0 0, .bool true] rfl rfl HCL.out (by simp [Value.oneCell']) (by unfold maxLen; omega) (by omega) (by rw [World.size_alloc]; omega) ?_; intro v' w5 hown' hgrow _; replace hgrow : (wr.alloc (.cells #[.slice none 0 0, .bool true] 96)).grownBy w5 (Value.slice pa pl pc).ownBlock := hgrow; clear hraw; have HG5 := Lib.hid hgrow; have HW5 := Lib.hid hown'; clear hown' hgrow)
            have HCL := Lib.hid (rec_cl wr (.slice none 0 0) true)
            go_wp2_with (at_builtin; refine wpList_append_own _ rfl _ _ 90 rfl s 96 i0 (.agg #[.slice none 0 0, .bool false]) 2 32 Try.underlying90 hi hz0 hz1 hz2 rfl (by decide) _ _ _ rfl (hraw.alloc _) ⟨wr.heap.size, 0, none⟩ 1 1 [.slice none 0 0, .bool true] rfl rfl HCL.out (by simp [Value.oneCell']) (by unfold maxLen; omega) (by omega) (by rw [World.size_alloc]; omega) ?_; intro v' w5 hown' hgrow _; replace hgrow : (wr.alloc (.cells #[.slice none 0 0, .bool true] 96)).grownBy w5 (Value.slice pa pl pc).ownBlock := hgrow; clear hraw; have HG5 := Lib.hid hgrow; have HW5 := Lib.hid hown'; clear hown' hgrow)
            have hrow : ∀ kk, (Value.slice pa pl pc).ownBlock = some kk → s ≤ kk := row_first HP.out.row
            have hsz5 : s ≤ w5.heap.size := by have := HG5.out.size; rw [World.size_alloc] at this; omega
            have hP5 := HP.out.grown (L := []) (b := true) (u := .slice none 0 0) (OwnBytes.nil s wr) (by rw [← HPLN.out]; exact HW5.out) HG5.out
            have hb5 : Below s wr w5 := ⟨HG5.out.os, HG5.out.tape, HG5.out.output, by have := HG5.out.size; rw [World.size_alloc] at this; omega, fun g' hg' => by
              have h1 := HG5.out.block g' (by rw [World.size_alloc]; omega) (fun e => by have := hrow g' e.symm; omega)
              rw [h1]
              exact Below.heap_alloc _ _ _ (by omega)⟩
            have hz5 := below_alloc w5 (.cells #[] 5)
            have HP6 := Lib.hid (hP5.below hz5)
            have HO6 := Lib.hid (own0 (s := s) (w := w5) hsz5)
            have HB6 := Lib.hid ((HBL.out.trans hb5).trans (hz5.mono hsz5))
            have hsz6 : s ≤ (w5.alloc (.cells #[] 5)).heap.size := by rw [World.size_alloc]; omega
            go_roundw
            case rel => exact ⟨k + 1, P ++ [([], true, .slice none 0 0)], [], by omega, by go_num, by rw [HTK.out, HRUN.out]; unfold st10; rw [if_neg (by show ¬ (2 : Int) = 1; decide), if_pos rfl, List.map_append, if_pos (show 8192 < B.length by rw [← HBLN.out]; exact hbig)]; rfl, HP6.out, HO6.out, HB6.out, by rw [List.length_append, ← HPLN.out]; simp; omega, by simp, hsz6⟩
            case measure => simp [intOf]; omega
          · have hbi : (bl : Int) ≤ 8192 := by omega
            have hbj : ¬ (8192 : Int) < bl := by omega
            have HCL := Lib.hid (rec_cl wr (.slice ba bl bc) false)
            go_wp2_with (at_builtin; refine wpList_append_own _ rfl _ _ 90 rfl s 96 i0 (.agg #[.slice none 0 0, .bool false]) 2 32 Try.underlying90 hi hz0 hz1 hz2 rfl (by decide) _ _ _ rfl (hraw.alloc _) ⟨wr.heap.size, 0, none⟩ 1 1 [.slice ba bl bc, .bool false] rfl rfl HCL.out (by simp [Value.oneCell']) (by unfold maxLen; omega) (by omega) (by rw [World.size_alloc]; omega) ?_; intro v' w5 hown' hgrow _; replace hgrow : (wr.alloc (.cells #[.slice ba bl bc, .bool false] 96)).grownBy w5 (Value.slice pa pl pc).ownBlock := hgrow; clear hraw; have HG5 := Lib.hid hgrow; have HW5 := Lib.hid hown'; clear hown' hgrow)
            have hrow : ∀ kk, (Value.slice pa pl pc).ownBlock = some kk → s ≤ kk := row_first HP.out.row
            have hsz5 : s ≤ w5.heap.size := by have := HG5.out.size; rw [World.size_alloc] at this; omega
            have hP5 := HP.out.grown (L := B) (b := false) (u := .slice ba bl bc) HB.out (by rw [← HPLN.out]; exact HW5.out) HG5.out
            have hb5 : Below s wr w5 := ⟨HG5.out.os, HG5.out.tape, HG5.out.output, by have := HG5.out.size; rw [World.size_alloc] at this; omega, fun g' hg' => by
              have h1 := HG5.out.block g' (by rw [World.size_alloc]; omega) (fun e => by have := hrow g' e.symm; omega)
              rw [h1]
              exact Below.heap_alloc _ _ _ (by omega)⟩
            have hz5 := below_alloc w5 (.cells #[] 5)
            have HP6 := Lib.hid (hP5.below hz5)
            have HO6 := Lib.hid (own0 (s := s) (w := w5) hsz5)
            have HB6 := Lib.hid ((HBL.out.trans hb5).trans (hz5.mono hsz5))
            have hsz6 : s ≤ (w5.alloc (.cells #[] 5)).heap.size := by rw [World.size_alloc]; omega
            go_roundw
            case rel => exact ⟨k + 1, P ++ [(B, false, .slice ba bl bc)], [], by omega, by go_num, by rw [HTK.out, HRUN.out]; unfold st10; rw [if_neg (by show ¬ (2 : Int) = 1; decide), if_pos rfl, List.map_append, if_neg (show ¬ 8192 < B.length by rw [← HBLN.out]; exact hbig)]; rfl, HP6.out, HO6.out, HB6.out, by rw [List.length_append, ← HPLN.out]; simp; omega, by simp, hsz6⟩
            case measure => simp [intOf]; omega
        · have t1 : (kd == 1) = false := by simpa using k1
          have t2 : (kd == 2) = false := by simpa using k2
          go_wp2_with fail
          go_roundw
          case rel => exact ⟨k + 1, P, B, by omega, by go_num, by rw [HTK.out, HRUN.out]; unfold st10; rw [if_neg k1, if_neg k2], HP.out, HB.out, HBL.out, by have := HPLN.out; omega, by rw [HTT.out]; have := HBT2.out; omega, hsz⟩
          case measure => simp [intOf]; omega
    · obtain rfl : n = k := by omega
      have htl : L.take n = L := List.take_of_length_le (by rw [← HN.out]; exact Nat.le_refl _)
      have h1 := HRUN.out
      rw [htl] at h1
      have HRN := Lib.hid h1
      clear htl h1
      go_wp2_with fail
      go_ret2
      exact ⟨.slice pa pl pc, .slice ba bl bc, P, rfl, HP.out, by rw [HRN.out]; exact HB.out, by rw [HRN.out], by have := HPLN.out; omega, HBL.out⟩
end Go.Proofs.Ytimidoaafllnkaa.Rec
