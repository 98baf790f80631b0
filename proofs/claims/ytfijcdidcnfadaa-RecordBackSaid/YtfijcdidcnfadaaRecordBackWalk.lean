/-
  The walk of RecordBack.
-/
import Derived.Test.YtfijcdidcnfadaaRecE
import Derived.Test.YtfijcdidcnfadaaRecF
import Derived.Test.YtfijcdidcnfadaaCutGen
import Derived.Test.YtfijcdidcnfadaaOpenR
import Derived.Test.YtfijcdidcnfadaaAppRow
import Derived.Test.YtfijcdidcnfadaaIacB
namespace Go.Proofs.Ytfijcdidcnfadaa.Rec
open Go.RowKit Base Iac
set_option linter.unusedVariables false

theorem and63 (n : Int) : bits .and .i64 n 63 = n % 64 := i64_mask n 63 6 (by decide) (by decide) (by decide)
theorem RowsOwn.rows8 {s : Nat} {w : World} {v : Value} {R : List RP} (h : RowsOwn s w v R) : Rows8 w v (R.map (·.1)) := by
  rcases h.row.2 with ⟨rfl, h0⟩ | ⟨g, cap, cur, rfl, hg, hgb, _⟩
  · exact ⟨none, 0, by simp [h0], fun hne => absurd (by simpa using h0) hne⟩
  · refine ⟨_, cap, by simp, fun _ => ⟨g, 0, rfl, lt_of_block hgb, fun i r hi => ?_⟩⟩
    rw [List.getElem?_map] at hi
    obtain ⟨p, hp, rfl⟩ := Option.map_eq_some_iff.1 hi
    obtain ⟨hlt, _⟩ := List.getElem?_eq_some_iff.1 hp
    have hr := h.row
    have hq : (R.map (·.2))[i]? = some p.2 := by rw [List.getElem?_map, hp]; rfl
    rw [Nat.zero_add]
    exact ⟨p.2, (hr.cellAt _ (by omega)).trans hq, (h.own p (List.mem_of_getElem? hp)).row⟩
theorem own_nocap {s : Nat} {w : World} {v : Value} {L : List Int} (h : OwnBytes s w v L) : ∀ n c, v = .slice Option.none n c → c = 0 := by
  intro n c e
  rcases h.2 with ⟨h1, _⟩ | ⟨g, cap, cur, h1, _⟩
  · rw [h1] at e; injection e with _ _ e3; exact e3.symm
  · rw [h1] at e; injection e with e1; cases e1
theorem recsL_snoc (R : List (List Int)) (r : List Int) : recsL (R ++ [r]) = recsL R ++ (escL r ++ [255, 239]) := by simp [recsL]
/-- The bytes of a row, by their block. -/
theorem own_in {s d : Nat} {w : World} {v : Value} {L : List Int} (h : OwnBytes s w v L) (hd : L ≠ [] → w.heap.size ≤ d) : RowIn (fun k => k < d) .u8 w v L := by
  obtain ⟨a, cap, rfl, hr⟩ := h.rowIn
  refine ⟨a, cap, rfl, fun hne => ?_⟩
  obtain ⟨b, off, ha, hS, hlt, hc⟩ := hr hne
  exact ⟨b, off, ha, by have := hd hne; omega, hlt, hc⟩
/-- A decoder and the bytes. -/
structure ER (w : World) (d : Nat) (v : Value) (L : List Int) (D : Dec) (W : World) : Prop where
  row : RowIn (fun k => k < d) .u8 W v L
  d2 : DecAt W (d + 1) D
  old : Below w.heap.size w W
  lo : w.heap.size ≤ d + 1
theorem ER.turn2 {w W W' : World} {d s : Nat} {v : Value} {L : List Int} {D1 D : Dec} (h : ER w d v L D1 W) (hs : d + 1 < s) (hs2 : s ≤ W.heap.size) (t : Turn (fun k => k = d + 1 ∨ s ≤ k) W W') (hd : DecAt W' (d + 1) D) : ER w d v L D W' := by
  have := h.lo
  have hb : ∀ k, k < w.heap.size → W'.heap[k]? = W.heap[k]? := fun k hk => t.block k (by have := h.old.size; omega) (by omega)
  exact ⟨h.row.turn t fun b hb => by omega, hd, h.old.trans ⟨t.os, t.tape, t.output, t.size, fun k hk => hb k hk⟩, h.lo⟩
/-- What a round of the records finds. -/
def BackRel (W1 : World) (s n : Nat) (X : List (List Int)) (v i : Value) (wr : World) : Prop :=
  ∃ k : Nat, k ≤ n ∧ i = .int .i64 k ∧ (∀ r ∈ X.take k, r.length ≤ 500) ∧ OwnBytes s wr v (recsL (X.take k)) ∧ Below s W1 wr ∧ s < wr.heap.size
set_option maxRecDepth 100000 in
set_option maxHeartbeats 8000000 in
theorem recordBack_law {w : World} (v : Value) (X : List (List Int)) (hX : Rows8 w v X ∧ X.length ≤ maxLen ∧ ∀ r ∈ X, r.length ≤ maxLen ∧ ∀ n ∈ r, Open.Byte n) (z : Value) (Z : List Int) (hZ : RowOf .i64 w z Z ∧ Z.length ≤ maxLen ∧ ∀ n ∈ Z, Open.I64 n) :
    Calls Try.prog 9 #[v, z] w fun e W' => e = .returned (.bool true) ∧ Below w.heap.size w W' := by
  obtain ⟨i0, hi, hz0, hz1, hz2⟩ := info_parts info_event
  obtain ⟨hrx, hlx, hbx⟩ := hX
  obtain ⟨hrz, hlz, _⟩ := hZ
  have hzd := (zero_of_info info_dec).1
  have HX := Lib.hid hrx
  have HXB := Lib.hid (fun r hr => (hbx r hr).1)
  obtain ⟨ax, cx, rfl, hrowx⟩ := hrx
  obtain ⟨az, cz, rfl, hrowz⟩ := hrz
  obtain ⟨nx, hnx⟩ : ∃ nx, nx = X.length := ⟨_, rfl⟩
  obtain ⟨m, hm⟩ : ∃ m, m = Z.length := ⟨_, rfl⟩
  have HNX := Lib.hid hnx
  have HM := Lib.hid hm
  have HROW := Lib.hid hrowx
  have HRZ := Lib.hid hrowz
  unfold maxLen at hlx hlz
  rw [← hnx] at HX hlx ⊢
  rw [← hm] at hlz ⊢
  clear hnx hm hrowx hrowz hbx
  by_cases hbig : 20 < nx
  · have hbig' : (20 : Int) < nx := by omega
    clear HX HROW HRZ
    go_enter Try.func9, Try.ntmps9
    go_wp2_with fail
    refine (rec_alive w).mono ?_
    rintro e W1 ⟨rfl, b1⟩
    go_wp2_with fail
    go_ret
    exact ⟨rfl, b1⟩
  have hsx : (nx : Int) ≤ 20 := by omega
  by_cases hbm : 60 < m
  · have hbm' : (60 : Int) < m := by omega
    clear HX HROW HRZ
    go_enter Try.func9, Try.ntmps9
    go_wp2_with fail
    refine (rec_alive w).mono ?_
    rintro e W1 ⟨rfl, b1⟩
    go_wp2_with fail
    go_ret
    exact ⟨rfl, b1⟩
  have hsm2 : (m : Int) ≤ 60 := by omega
  clear hbig hbm
  go_enter Try.func9, Try.ntmps9
  go_wp2_with fail
  refine (rec_alive w).mono ?_
  rintro e W1 ⟨rfl, b1⟩
  have b2 := below_alloc W1 (.cells #[] 5)
  have o2 := own0 (s := W1.heap.size) (w := W1) (Nat.le_refl _)
  have z2 := World.size_alloc W1 (.cells #[] 5)
  obtain ⟨W2, hW2⟩ : ∃ W2, W2 = W1.alloc (.cells #[] 5) := ⟨_, rfl⟩
  obtain ⟨s0, hs0⟩ : ∃ s0, s0 = W1.heap.size := ⟨_, rfl⟩
  have hls0 : w.heap.size ≤ s0 := by rw [hs0]; exact b1.size
  rw [← hW2, ← hs0] at o2 z2 b2
  have B2 := Lib.hid b2
  have B1 := Lib.hid b1
  have O2 := Lib.hid o2
  have HW2 := Lib.hid hW2.symm
  have HS0 := Lib.hid hs0.symm
  clear b1 b2 o2 hW2 hs0
  go_upto_region 6 with fail
  rw [HW2.out, HS0.out]
  go_wp2_with fail
  go_loopw [5, 31] (fun v i wr => BackRel W1 s0 nx X v i wr) (fun _ i _ => nx - (intOf i).toNat)
  case atStart => exact ⟨0, by omega, rfl, by simp, by simpa [recsL] using O2.out, B2.out, by omega⟩
  case round =>
    obtain ⟨k, hk, rfl, hk5, ho, hb, hsz⟩ := hrel
    have HO := Lib.hid ho
    have HB := Lib.hid (B1.out.trans (hb.mono hls0))
    have HBB := Lib.hid hb
    have HK5 := Lib.hid hk5
    obtain ⟨va, vc, rfl⟩ := ho.slice
    obtain ⟨l, hl⟩ : ∃ l, l = (recsL (X.take k)).length := ⟨_, rfl⟩
    have hll : l ≤ 1002 * 20 := by
      have h1 := recsL_len (X.take k) 500 hk5
      rw [List.length_take] at h1
      have : (2 * 500 + 2) * min k X.length ≤ 1002 * 20 := Nat.mul_le_mul (Nat.le_refl _) (by have := HNX.out; omega)
      omega
    have HL := Lib.hid hl
    rw [← hl] at HO
    rw [← hl]
    clear ho hb hk5 hl
    by_cases hkn : k < nx
    · have hkl : k < X.length := by rw [← HNX.out]; exact hkn
      obtain ⟨g, off, rfl, hgl, hc⟩ := HROW.out (by intro e; rw [e] at hkl; simp at hkl)
      obtain ⟨q, hq⟩ : ∃ q, X[k]? = some q := ⟨_, List.getElem?_eq_getElem hkl⟩
      obtain ⟨u, d0, hu⟩ := hc k q hq
      have d0 := (HB.out.cell (p := ⟨g, off + k, none⟩) hgl).trans d0
      have HU := Lib.hid (hu.below HB.out)
      have HQ := Lib.hid hq
      have htk : X.take (k + 1) = X.take k ++ [q] := by rw [List.take_add_one, hq]; rfl
      have HTK := Lib.hid htk
      have hik : (0 : Int) ≤ (k : Int) := Int.natCast_nonneg _
      have hikn : (k : Int) < (nx : Int) := by omega
      obtain ⟨ua, ul, uc, rfl, hul⟩ : ∃ ua ul uc, u = .slice ua ul uc ∧ ul = q.length := by
        obtain ⟨a', c', e', _⟩ := hu
        exact ⟨a', _, c', e', rfl⟩
      have HUL := Lib.hid hul
      clear hc hu hq hkl htk hul
      by_cases h5 : 500 < ul
      · have h5' : (500 : Int) < ul := by omega
        go_wp2_with fail
        go_ret
        exact ⟨rfl, HB.out⟩
      have h5' : (ul : Int) ≤ 500 := by omega
      clear h5
      go_wp2_with fail
      refine (record_any _ q wr HU.out (by have := HUL.out; omega)).mono ?_
      rintro e w5 ⟨p, rfl, hp, b5⟩
      have HP := Lib.hid hp
      have B5 := Lib.hid b5
      have hs5 := b5.size
      have HNC := Lib.hid (own_nocap hp)
      obtain ⟨pa, pc, rfl⟩ := hp.slice
      obtain ⟨lp, hlp⟩ : ∃ lp, lp = (escL q ++ [255, 239]).length := ⟨_, rfl⟩
      have hpl : (escL q ++ [255, 239]).length ≤ 1002 := by
        have h1 := escL_le q
        have := HUL.out
        simp only [List.length_append, List.length_cons, List.length_nil]
        omega
      rw [← hlp] at HP HNC hpl ⊢
      have HLP := Lib.hid hlp
      clear hp b5 hlp
      go_wp2_with (at_builtin; refine append_row rfl _ _ rfl (base := s0) (HO.out.below B5.out) HP.out.row HNC.out rfl rfl (by have := HL.out; have := HLP.out; omega) (by omega) (w0 := W1) (HBB.out.trans (B5.out.mono (by omega))) ?_; intro v' w6 hown hold _ hsz6)
      go_roundw
      case rel => exact ⟨k + 1, by omega, by go_num, by rw [HTK.out]; intro r hr; rcases List.mem_append.1 hr with hr | hr; exact HK5.out r hr; rw [List.mem_singleton.1 hr]; have := HUL.out; omega, by rw [HTK.out, recsL_snoc]; exact hown, hold, by omega⟩
      case measure => simp [intOf]; omega
    · obtain rfl : nx = k := by omega
      have htx : X.take nx = X := List.take_of_length_le (by have := HNX.out; omega)
      have hX5 : ∀ r ∈ X, r.length ≤ 500 := by have := HK5.out; rw [htx] at this; exact this
      obtain ⟨L, hLd⟩ : ∃ L, L = recsL X := ⟨_, rfl⟩
      have hL1 := HL.out
      have hO1 := HO.out
      rw [htx, ← hLd] at hL1 hO1
      have HO := Lib.hid hO1
      have HN := Lib.hid hL1
      have HLD := Lib.hid hLd
      have HX5 := Lib.hid hX5
      clear htx hX5 hLd hL1 hO1 HL HK5
      have hnn : (l : Int) ≤ 20040 := by omega
      obtain ⟨n, hnl⟩ : ∃ n, n = l := ⟨_, rfl⟩
      rw [← hnl] at HN HO hnn hll
      rw [← hnl]
      clear hnl
      have hcap : n ≤ vc := by
        rcases HO.out.2 with ⟨h1, _⟩ | ⟨g, cap, cur, h1, _, _, hle, _⟩
        · injection h1 with _ h2 h3; omega
        · injection h1 with _ h2 h3
          subst h3
          have := HN.out
          omega
      go_wp2_with fail
      refine (split_any _ L wr HO.out.row (by have := HN.out; omega)).mono ?_
      rintro e W3 ⟨b3, hS⟩
      rw [if_pos (by rw [HLD.out]; exact split_recs X)] at hS
      obtain ⟨u3, R3, rfl, hR3, hm3⟩ := hS
      have hrun : runM (feedD dec0 L).2 = ⟨[], false, X, 0⟩ := by
        rw [HLD.out, feed_recs]
        exact run_recs X fun r hr => by have := HX5.out r hr; omega
      rw [hrun] at hm3
      rw [hrun]
      simp only at hm3
      have hR8 := hR3.rows8
      rw [hm3] at hR8
      have hz3 := b3.size
      have hne3 : X ≠ [] → wr.heap.size < W3.heap.size := by
        intro hne
        obtain ⟨a3, c3, e3, hr3⟩ := hR8
        rcases hR3.row.2 with ⟨_, h0⟩ | ⟨g, cap, cur, rfl, hg, hgb, _⟩
        · exact absurd (by rw [← hm3, List.length_eq_zero_iff.1 h0]; rfl) hne
        · have := lt_of_block hgb; omega
      have hrow3 : RowIn (fun k => k < W3.heap.size - 1) .u8 W3 (.slice va n vc) L := (own_in HO.out (fun hne => by
        have hx : X ≠ [] := by intro e; apply hne; rw [HLD.out, e]; rfl
        have := hne3 hx
        omega)).below b3
      have hx3 := HX.out.below (HB.out.trans (b3.mono (by have := HB.out.size; omega)))
      have hb3 := HB.out.trans (b3.mono (by have := HB.out.size; omega))
      have HR8 := Lib.hid hR8
      have HX3 := Lib.hid hx3
      obtain ⟨ga, gc, rfl⟩ := hR3.form
      obtain ⟨nr, hnr⟩ : ∃ nr, nr = R3.length := ⟨_, rfl⟩
      rw [← hnr] at HR8
      rw [← hnr]
      have HROW3 := Lib.hid hrow3
      have HB3 := Lib.hid hb3
      have h3pos : 1 ≤ W3.heap.size := by omega
      clear b3 hR3 hrun hm3 hR8 hz3 hne3 hrow3 hx3 hb3 hnr HBB
      go_wp2_with fail
      refine (sameAll_true _ _ X W3 HR8.out HX3.out (by have := HNX.out; omega) (fun r hr => by have := HX5.out r hr; omega)).mono ?_
      rintro e W4 ⟨rfl, nd, hnd⟩
      have b34 : Below W3.heap.size W3 W4 := by rw [hnd]; exact below_drewN (Below.refl _ W3) _
      have hz4 : W4.heap.size = W3.heap.size := by rw [hnd]; rfl
      obtain ⟨d, hd⟩ : ∃ d, d + 1 = W4.heap.size := ⟨W4.heap.size - 1, by omega⟩
      have hb4 := HB3.out.trans (b34.mono (by have := HB3.out.size; omega))
      have hrow4 : RowIn (fun k => k < d) .u8 W4 (.slice va n vc) L := (HROW3.out.below b34).mono fun k hk => by omega
      have hx4 := HX3.out.below b34
      have b45 := below_alloc W4 (.cells zdec 95)
      have z5 := World.size_alloc W4 (.cells zdec 95)
      have d5 := dec_new W4
      obtain ⟨W5, hW5⟩ : ∃ W5, W5 = W4.alloc (.cells zdec 95) := ⟨_, rfl⟩
      rw [← hW5] at b45 z5 d5
      rw [← hd] at d5
      have b56 := below_alloc W5 (.cells #[] 67)
      have z6 := World.size_alloc W5 (.cells #[] 67)
      have p6 := parts0 (s := W5.heap.size) (w := W5) (Nat.le_refl _)
      obtain ⟨W6, hW6⟩ : ∃ W6, W6 = W5.alloc (.cells #[] 67) := ⟨_, rfl⟩
      rw [← hW6] at b56 z6 p6
      obtain ⟨s, hs⟩ : ∃ s, s = W5.heap.size := ⟨_, rfl⟩
      rw [← hs] at p6
      have hds : d + 1 < s := by omega
      have hs6 : s ≤ W6.heap.size := by omega
      have he6 : ER w d (.slice va n vc) L dec0 W6 := ⟨(hrow4.below b45).below b56, d5.below b56, (hb4.trans (b45.mono (by have := hb4.size; omega))).trans (b56.mono (by have := hb4.size; omega)), by have := hb4.size; omega⟩
      have HEC6 := Lib.hid he6
      have HP6 := Lib.hid p6
      have HX6 := Lib.hid ((hx4.below b45).below b56)
      have HS : Hid (d + 1 + 1 = s) := Lib.hid (by omega)
      have HDD := Lib.hid hd.symm
      have HW5 := Lib.hid hW5.symm
      have HW6 := Lib.hid hW6.symm
      clear hnd b34 hz4 hb4 hrow4 hx4 b45 z5 d5 b56 z6 p6 he6 hs hd hW5 hW6 h3pos
      go_upto_region 19 with fail
      rw [HW5.out, HW6.out, HDD.out, HS.out]
      go_wp2_with fail
      go_loopw [12, 13, 65] (fun parts rest i wr => CutRel s d L W6 n m parts rest i wr) (fun _ _ i _ => m - (intOf i).toNat)
      case atStart => exact ⟨0, 0, n, vc, va, [], dec0, by omega, rfl, rfl, by omega, hcap, HEC6.out.row, HEC6.out.d2, by simp [dec0], HP6.out, ⟨rfl, rfl⟩, by simp, by simp [totE, pend, dec0], Turn.refl _ _⟩
      case round =>
        obtain ⟨j, c, r, kc, ra, P, De, hj, rfl, rfl, hcr, hrk, hCR⟩ := hrel
        have hsz : s ≤ wr.heap.size := Nat.le_trans hs6 hCR.t.size
        have hec := HEC6.out.turn2 hds hs6 hCR.t hCR.dec
        have HCR := Lib.hid hCR
        have HEC := Lib.hid hec
        have hpl : P.length ≤ 50000 := by have := hCR.len; omega
        obtain ⟨pa, pc, rfl⟩ := row_form hCR.parts.row
        obtain ⟨pl, hpl2⟩ : ∃ pl, pl = P.length := ⟨_, rfl⟩
        rw [← hpl2] at hpl HCR
        have HPL := Lib.hid hpl2
        rw [← hpl2]
        clear hCR hec hpl2
        have hri : (0 : Int) ≤ r := Int.natCast_nonneg _
        have hrki : (r : Int) ≤ kc := by omega
        by_cases hjm : j < m
        · have hjl : j < Z.length := by rw [← HM.out]; exact hjm
          obtain ⟨gz, oz, rfl, hcz⟩ := HRZ.out (by intro e; rw [e] at hjl; simp at hjl)
          have dz := hcz j hjl
          have dz := (HEC.out.old.cell (p := ⟨gz, oz + j, none⟩) (World.block_lt_of_cell? w ⟨gz, oz + j, none⟩ dz)).trans dz
          obtain ⟨x, hx⟩ : ∃ x, x = Z[j]?.getD 0 := ⟨_, rfl⟩
          rw [← hx] at dz
          clear hcz hjl hx
          obtain ⟨q, hq, hqb⟩ : ∃ q : Nat, x % 64 = (q : Int) ∧ q ≤ 63 := ⟨(x % 64).toNat, by omega, by omega⟩
          have hand : bits BinOp.and IntKind.i64 x 63 = (q : Int) := (and63 x).trans hq
          clear hq
          by_cases hqr : q ≤ r
          · skip
            have hqi : (q : Int) ≤ r := by omega
            by_cases hkk : q = kc
            · obtain rfl : q = r := by omega
              subst hkk
              clear hqr hrk hrki
              have hrest : ∀ a' c', RowIn (fun k => k < d) .u8 wr (.slice a' 0 c') (L.drop (c + q)) := fun a' c' => by
                have h1 : L.drop (c + q) = [] := List.drop_eq_nil_of_le (by have := HN.out; omega)
                rw [h1]
                exact RowIn.zero a' c'
              have HREST := Lib.hid hrest
              clear hrest
              go_wp2_with fail
              refine (feed_any (d + 1) De _ ((L.drop c).take q) wr HCR.out.dec HCR.out.st ((RowIn.takeTo HCR.out.rest q (by omega)).mono fun k hk => by omega) (by rw [List.length_take]; omega)).mono ?_
              rintro e W7 ⟨v7, P7, rfl, hD7, hE7, hP7, hT7⟩
              have hpw := HCR.out.parts.turn hT7 (fun k hk => by omega)
              have hraw := hpw.row
              rw [← HPL.out] at hraw
              have hs7 : s ≤ W7.heap.size := by have := hT7.size; omega
              have hp7 : P7.length ≤ 50000 := by
                have h1 := (feedD_fine De ((L.drop c).take q) HCR.out.st (by obtain ⟨A, _, k⟩ := HCR.out.dec; exact k.le)).many
                rw [← hP7, List.length_map, List.length_take] at h1
                omega
              have HD7 := Lib.hid hD7
              have HE7 := Lib.hid hE7
              have HP7 := Lib.hid hP7
              have HT7 := Lib.hid hT7
              have HPW := Lib.hid hpw
              clear hD7 hP7 hT7 hpw
              rcases hE7.slice with ⟨rfl, rfl⟩ | ⟨g7, c7, rfl, _, _⟩
              · clear hE7
                go_wp2_with (at_builtin; refine wpList_append_own_none rfl _ _ 62 rfl s 67 i0 4 Try.underlying62 hi _ _ _ rfl hraw rfl ?_)
                go_roundw
                case rel => exact ⟨j + 1, c + q, _, _, _, P ++ [], _, by omega, by go_num, rfl, by omega, by omega, CR.next HCR.out HN.out hcr (by omega) hds hsz HD7.out HE7.out HP7.out HT7.out (more_none HPW.out) (grown_refl _ _) (HREST.out _ _)⟩
                case measure => simp [intOf]; omega
              · have hc7 : ∀ (i : Nat) (y : Value), (evC P7)[i]? = some y → W7.cell? ((⟨g7, 0, none⟩ : Addr).add i) = some y := fun i y hy => World.ownsRow.cells hE7.row (g := g7) rfl i y hy
                have HC7 := Lib.hid hc7
                obtain ⟨m7, hm7⟩ : ∃ m7, m7 = P7.length := ⟨_, rfl⟩
                have hl7 : (evC P7).length = m7 * 4 := by rw [evC_length, hm7]
                rw [← hm7] at hp7
                have HM7 := Lib.hid hm7
                rw [← hm7]
                clear hE7 hc7 hm7
                go_wp2_with (at_builtin; refine wpList_append_own _ rfl _ _ 62 rfl s 67 i0 (.agg #[.int .i64 0, .int .u8 0, .int .u8 0, .slice none 0 0]) 4 40 Try.underlying62 hi hz0 hz1 hz2 rfl (by decide) _ _ _ rfl hraw ⟨g7, 0, none⟩ m7 c7 (evC P7) rfl hl7 HC7.out (evC_one HE7.out) (by unfold maxLen; omega) (by omega) (by omega) ?_; intro v' w8 hown' hgrow _)
                go_roundw
                case rel => exact ⟨j + 1, c + q, _, _, _, P ++ P7, _, by omega, by go_num, rfl, by omega, by omega, CR.next HCR.out HN.out hcr (by omega) hds hsz HD7.out HE7.out HP7.out HT7.out (by rw [← HPL.out, ← HM7.out]; exact hown') hgrow (HREST.out _ _)⟩
                case measure => simp [intOf]; omega
            · have hkk2 : q < kc := by omega
              have hkk3 : (q : Int) < kc := by omega
              rcases ra with _ | ad
              · have hr0 : r = 0 := by
                  have := HCR.out.rest
                  obtain ⟨a', c', e', hx⟩ := this
                  injection e' with e1 e2 e3
                  by_cases hd0 : L.drop c = []
                  · rw [hd0] at e2; exact e2
                  · obtain ⟨_, _, e4, _⟩ := hx hd0
                    rw [← e1] at e4; cases e4
                subst hr0
                obtain rfl : q = 0 := by omega
                clear hqr
                have hrest : ∀ a' c', RowIn (fun k => k < d) .u8 wr (.slice a' 0 c') (L.drop (c + 0)) := fun a' c' => by
                  have h1 : L.drop (c + 0) = [] := List.drop_eq_nil_of_le (by have := HN.out; omega)
                  rw [h1]
                  exact RowIn.zero a' c'
                have HREST := Lib.hid hrest
                clear hrest
                go_wp2_with fail
                refine (feed_any (d + 1) De _ ((L.drop c).take 0) wr HCR.out.dec HCR.out.st ((RowIn.takeTo HCR.out.rest 0 (by omega)).mono fun k hk => by omega) (by rw [List.length_take]; omega)).mono ?_
                rintro e W7 ⟨v7, P7, rfl, hD7, hE7, hP7, hT7⟩
                have hpw := HCR.out.parts.turn hT7 (fun k hk => by omega)
                have hraw := hpw.row
                rw [← HPL.out] at hraw
                have hs7 : s ≤ W7.heap.size := by have := hT7.size; omega
                have hp7 : P7.length ≤ 50000 := by
                  have h1 := (feedD_fine De ((L.drop c).take 0) HCR.out.st (by obtain ⟨A, _, k⟩ := HCR.out.dec; exact k.le)).many
                  rw [← hP7, List.length_map, List.length_take] at h1
                  omega
                have HD7 := Lib.hid hD7
                have HE7 := Lib.hid hE7
                have HP7 := Lib.hid hP7
                have HT7 := Lib.hid hT7
                have HPW := Lib.hid hpw
                clear hD7 hP7 hT7 hpw
                rcases hE7.slice with ⟨rfl, rfl⟩ | ⟨g7, c7, rfl, _, _⟩
                · clear hE7
                  go_wp2_with (at_builtin; refine wpList_append_own_none rfl _ _ 62 rfl s 67 i0 4 Try.underlying62 hi _ _ _ rfl hraw rfl ?_)
                  go_roundw
                  case rel => exact ⟨j + 1, c + 0, _, _, _, P ++ [], _, by omega, by go_num, rfl, by omega, by omega, CR.next HCR.out HN.out hcr (by omega) hds hsz HD7.out HE7.out HP7.out HT7.out (more_none HPW.out) (grown_refl _ _) (HREST.out _ _)⟩
                  case measure => simp [intOf]; omega
                · have hc7 : ∀ (i : Nat) (y : Value), (evC P7)[i]? = some y → W7.cell? ((⟨g7, 0, none⟩ : Addr).add i) = some y := fun i y hy => World.ownsRow.cells hE7.row (g := g7) rfl i y hy
                  have HC7 := Lib.hid hc7
                  obtain ⟨m7, hm7⟩ : ∃ m7, m7 = P7.length := ⟨_, rfl⟩
                  have hl7 : (evC P7).length = m7 * 4 := by rw [evC_length, hm7]
                  rw [← hm7] at hp7
                  have HM7 := Lib.hid hm7
                  rw [← hm7]
                  clear hE7 hc7 hm7
                  go_wp2_with (at_builtin; refine wpList_append_own _ rfl _ _ 62 rfl s 67 i0 (.agg #[.int .i64 0, .int .u8 0, .int .u8 0, .slice none 0 0]) 4 40 Try.underlying62 hi hz0 hz1 hz2 rfl (by decide) _ _ _ rfl hraw ⟨g7, 0, none⟩ m7 c7 (evC P7) rfl hl7 HC7.out (evC_one HE7.out) (by unfold maxLen; omega) (by omega) (by omega) ?_; intro v' w8 hown' hgrow _)
                  go_roundw
                  case rel => exact ⟨j + 1, c + 0, _, _, _, P ++ P7, _, by omega, by go_num, rfl, by omega, by omega, CR.next HCR.out HN.out hcr (by omega) hds hsz HD7.out HE7.out HP7.out HT7.out (by rw [← HPL.out, ← HM7.out]; exact hown') hgrow (HREST.out _ _)⟩
                  case measure => simp [intOf]; omega
              · skip
                have hrest : RowIn (fun k => k < d) .u8 wr (.slice (some (ad.add q)) (r - q) (kc - q)) (L.drop (c + q)) := by
                  have := RowIn.dropTo HCR.out.rest q (by omega) (kc - q)
                  rw [List.drop_drop] at this
                  exact this
                have HREST := Lib.hid hrest
                clear hrest
                go_wp2_with fail
                refine (feed_any (d + 1) De _ ((L.drop c).take q) wr HCR.out.dec HCR.out.st ((RowIn.takeTo HCR.out.rest q (by omega)).mono fun k hk => by omega) (by rw [List.length_take]; omega)).mono ?_
                rintro e W7 ⟨v7, P7, rfl, hD7, hE7, hP7, hT7⟩
                have hpw := HCR.out.parts.turn hT7 (fun k hk => by omega)
                have hraw := hpw.row
                rw [← HPL.out] at hraw
                have hs7 : s ≤ W7.heap.size := by have := hT7.size; omega
                have hp7 : P7.length ≤ 50000 := by
                  have h1 := (feedD_fine De ((L.drop c).take q) HCR.out.st (by obtain ⟨A, _, k⟩ := HCR.out.dec; exact k.le)).many
                  rw [← hP7, List.length_map, List.length_take] at h1
                  omega
                have HD7 := Lib.hid hD7
                have HE7 := Lib.hid hE7
                have HP7 := Lib.hid hP7
                have HT7 := Lib.hid hT7
                have HPW := Lib.hid hpw
                clear hD7 hP7 hT7 hpw
                rcases hE7.slice with ⟨rfl, rfl⟩ | ⟨g7, c7, rfl, _, _⟩
                · clear hE7
                  go_wp2_with (at_builtin; refine wpList_append_own_none rfl _ _ 62 rfl s 67 i0 4 Try.underlying62 hi _ _ _ rfl hraw rfl ?_)
                  go_roundw
                  case rel => exact ⟨j + 1, c + q, _, _, _, P ++ [], _, by omega, by go_num, rfl, by omega, by omega, CR.next HCR.out HN.out hcr (by omega) hds hsz HD7.out HE7.out HP7.out HT7.out (more_none HPW.out) (grown_refl _ _) HREST.out⟩
                  case measure => simp [intOf]; omega
                · have hc7 : ∀ (i : Nat) (y : Value), (evC P7)[i]? = some y → W7.cell? ((⟨g7, 0, none⟩ : Addr).add i) = some y := fun i y hy => World.ownsRow.cells hE7.row (g := g7) rfl i y hy
                  have HC7 := Lib.hid hc7
                  obtain ⟨m7, hm7⟩ : ∃ m7, m7 = P7.length := ⟨_, rfl⟩
                  have hl7 : (evC P7).length = m7 * 4 := by rw [evC_length, hm7]
                  rw [← hm7] at hp7
                  have HM7 := Lib.hid hm7
                  rw [← hm7]
                  clear hE7 hc7 hm7
                  go_wp2_with (at_builtin; refine wpList_append_own _ rfl _ _ 62 rfl s 67 i0 (.agg #[.int .i64 0, .int .u8 0, .int .u8 0, .slice none 0 0]) 4 40 Try.underlying62 hi hz0 hz1 hz2 rfl (by decide) _ _ _ rfl hraw ⟨g7, 0, none⟩ m7 c7 (evC P7) rfl hl7 HC7.out (evC_one HE7.out) (by unfold maxLen; omega) (by omega) (by omega) ?_; intro v' w8 hown' hgrow _)
                  go_roundw
                  case rel => exact ⟨j + 1, c + q, _, _, _, P ++ P7, _, by omega, by go_num, rfl, by omega, by omega, CR.next HCR.out HN.out hcr (by omega) hds hsz HD7.out HE7.out HP7.out HT7.out (by rw [← HPL.out, ← HM7.out]; exact hown') hgrow HREST.out⟩
                  case measure => simp [intOf]; omega
          · skip
            have hqi : (r : Int) < q := by omega
            have hqn : r < q := by omega
            clear hqr
            by_cases hkk : r = kc
            · subst hkk
              clear hrk hrki
              have hrest : ∀ a' c', RowIn (fun k => k < d) .u8 wr (.slice a' 0 c') (L.drop (c + r)) := fun a' c' => by
                have h1 : L.drop (c + r) = [] := List.drop_eq_nil_of_le (by have := HN.out; omega)
                rw [h1]
                exact RowIn.zero a' c'
              have HREST := Lib.hid hrest
              clear hrest
              go_wp2_with fail
              refine (feed_any (d + 1) De _ ((L.drop c).take r) wr HCR.out.dec HCR.out.st ((RowIn.takeTo HCR.out.rest r (by omega)).mono fun k hk => by omega) (by rw [List.length_take]; omega)).mono ?_
              rintro e W7 ⟨v7, P7, rfl, hD7, hE7, hP7, hT7⟩
              have hpw := HCR.out.parts.turn hT7 (fun k hk => by omega)
              have hraw := hpw.row
              rw [← HPL.out] at hraw
              have hs7 : s ≤ W7.heap.size := by have := hT7.size; omega
              have hp7 : P7.length ≤ 50000 := by
                have h1 := (feedD_fine De ((L.drop c).take r) HCR.out.st (by obtain ⟨A, _, k⟩ := HCR.out.dec; exact k.le)).many
                rw [← hP7, List.length_map, List.length_take] at h1
                omega
              have HD7 := Lib.hid hD7
              have HE7 := Lib.hid hE7
              have HP7 := Lib.hid hP7
              have HT7 := Lib.hid hT7
              have HPW := Lib.hid hpw
              clear hD7 hP7 hT7 hpw
              rcases hE7.slice with ⟨rfl, rfl⟩ | ⟨g7, c7, rfl, _, _⟩
              · clear hE7
                go_wp2_with (at_builtin; refine wpList_append_own_none rfl _ _ 62 rfl s 67 i0 4 Try.underlying62 hi _ _ _ rfl hraw rfl ?_)
                go_roundw
                case rel => exact ⟨j + 1, c + r, _, _, _, P ++ [], _, by omega, by go_num, rfl, by omega, by omega, CR.next HCR.out HN.out hcr (by omega) hds hsz HD7.out HE7.out HP7.out HT7.out (more_none HPW.out) (grown_refl _ _) (HREST.out _ _)⟩
                case measure => simp [intOf]; omega
              · have hc7 : ∀ (i : Nat) (y : Value), (evC P7)[i]? = some y → W7.cell? ((⟨g7, 0, none⟩ : Addr).add i) = some y := fun i y hy => World.ownsRow.cells hE7.row (g := g7) rfl i y hy
                have HC7 := Lib.hid hc7
                obtain ⟨m7, hm7⟩ : ∃ m7, m7 = P7.length := ⟨_, rfl⟩
                have hl7 : (evC P7).length = m7 * 4 := by rw [evC_length, hm7]
                rw [← hm7] at hp7
                have HM7 := Lib.hid hm7
                rw [← hm7]
                clear hE7 hc7 hm7
                go_wp2_with (at_builtin; refine wpList_append_own _ rfl _ _ 62 rfl s 67 i0 (.agg #[.int .i64 0, .int .u8 0, .int .u8 0, .slice none 0 0]) 4 40 Try.underlying62 hi hz0 hz1 hz2 rfl (by decide) _ _ _ rfl hraw ⟨g7, 0, none⟩ m7 c7 (evC P7) rfl hl7 HC7.out (evC_one HE7.out) (by unfold maxLen; omega) (by omega) (by omega) ?_; intro v' w8 hown' hgrow _)
                go_roundw
                case rel => exact ⟨j + 1, c + r, _, _, _, P ++ P7, _, by omega, by go_num, rfl, by omega, by omega, CR.next HCR.out HN.out hcr (by omega) hds hsz HD7.out HE7.out HP7.out HT7.out (by rw [← HPL.out, ← HM7.out]; exact hown') hgrow (HREST.out _ _)⟩
                case measure => simp [intOf]; omega
            · have hkk2 : r < kc := by omega
              have hkk3 : (r : Int) < kc := by omega
              rcases ra with _ | ad
              · have hr0 : r = 0 := by
                  have := HCR.out.rest
                  obtain ⟨a', c', e', hx⟩ := this
                  injection e' with e1 e2 e3
                  by_cases hd0 : L.drop c = []
                  · rw [hd0] at e2; exact e2
                  · obtain ⟨_, _, e4, _⟩ := hx hd0
                    rw [← e1] at e4; cases e4
                subst hr0
                skip
                have hrest : ∀ a' c', RowIn (fun k => k < d) .u8 wr (.slice a' 0 c') (L.drop (c + 0)) := fun a' c' => by
                  have h1 : L.drop (c + 0) = [] := List.drop_eq_nil_of_le (by have := HN.out; omega)
                  rw [h1]
                  exact RowIn.zero a' c'
                have HREST := Lib.hid hrest
                clear hrest
                go_wp2_with fail
                refine (feed_any (d + 1) De _ ((L.drop c).take 0) wr HCR.out.dec HCR.out.st ((RowIn.takeTo HCR.out.rest 0 (by omega)).mono fun k hk => by omega) (by rw [List.length_take]; omega)).mono ?_
                rintro e W7 ⟨v7, P7, rfl, hD7, hE7, hP7, hT7⟩
                have hpw := HCR.out.parts.turn hT7 (fun k hk => by omega)
                have hraw := hpw.row
                rw [← HPL.out] at hraw
                have hs7 : s ≤ W7.heap.size := by have := hT7.size; omega
                have hp7 : P7.length ≤ 50000 := by
                  have h1 := (feedD_fine De ((L.drop c).take 0) HCR.out.st (by obtain ⟨A, _, k⟩ := HCR.out.dec; exact k.le)).many
                  rw [← hP7, List.length_map, List.length_take] at h1
                  omega
                have HD7 := Lib.hid hD7
                have HE7 := Lib.hid hE7
                have HP7 := Lib.hid hP7
                have HT7 := Lib.hid hT7
                have HPW := Lib.hid hpw
                clear hD7 hP7 hT7 hpw
                rcases hE7.slice with ⟨rfl, rfl⟩ | ⟨g7, c7, rfl, _, _⟩
                · clear hE7
                  go_wp2_with (at_builtin; refine wpList_append_own_none rfl _ _ 62 rfl s 67 i0 4 Try.underlying62 hi _ _ _ rfl hraw rfl ?_)
                  go_roundw
                  case rel => exact ⟨j + 1, c + 0, _, _, _, P ++ [], _, by omega, by go_num, rfl, by omega, by omega, CR.next HCR.out HN.out hcr (by omega) hds hsz HD7.out HE7.out HP7.out HT7.out (more_none HPW.out) (grown_refl _ _) (HREST.out _ _)⟩
                  case measure => simp [intOf]; omega
                · have hc7 : ∀ (i : Nat) (y : Value), (evC P7)[i]? = some y → W7.cell? ((⟨g7, 0, none⟩ : Addr).add i) = some y := fun i y hy => World.ownsRow.cells hE7.row (g := g7) rfl i y hy
                  have HC7 := Lib.hid hc7
                  obtain ⟨m7, hm7⟩ : ∃ m7, m7 = P7.length := ⟨_, rfl⟩
                  have hl7 : (evC P7).length = m7 * 4 := by rw [evC_length, hm7]
                  rw [← hm7] at hp7
                  have HM7 := Lib.hid hm7
                  rw [← hm7]
                  clear hE7 hc7 hm7
                  go_wp2_with (at_builtin; refine wpList_append_own _ rfl _ _ 62 rfl s 67 i0 (.agg #[.int .i64 0, .int .u8 0, .int .u8 0, .slice none 0 0]) 4 40 Try.underlying62 hi hz0 hz1 hz2 rfl (by decide) _ _ _ rfl hraw ⟨g7, 0, none⟩ m7 c7 (evC P7) rfl hl7 HC7.out (evC_one HE7.out) (by unfold maxLen; omega) (by omega) (by omega) ?_; intro v' w8 hown' hgrow _)
                  go_roundw
                  case rel => exact ⟨j + 1, c + 0, _, _, _, P ++ P7, _, by omega, by go_num, rfl, by omega, by omega, CR.next HCR.out HN.out hcr (by omega) hds hsz HD7.out HE7.out HP7.out HT7.out (by rw [← HPL.out, ← HM7.out]; exact hown') hgrow (HREST.out _ _)⟩
                  case measure => simp [intOf]; omega
              · skip
                have hrest : ∀ a' c', RowIn (fun k => k < d) .u8 wr (.slice a' 0 c') (L.drop (c + r)) := fun a' c' => by
                  have h1 : L.drop (c + r) = [] := List.drop_eq_nil_of_le (by have := HN.out; omega)
                  rw [h1]
                  exact RowIn.zero a' c'
                have HREST := Lib.hid hrest
                clear hrest
                go_wp2_with fail
                refine (feed_any (d + 1) De _ ((L.drop c).take r) wr HCR.out.dec HCR.out.st ((RowIn.takeTo HCR.out.rest r (by omega)).mono fun k hk => by omega) (by rw [List.length_take]; omega)).mono ?_
                rintro e W7 ⟨v7, P7, rfl, hD7, hE7, hP7, hT7⟩
                have hpw := HCR.out.parts.turn hT7 (fun k hk => by omega)
                have hraw := hpw.row
                rw [← HPL.out] at hraw
                have hs7 : s ≤ W7.heap.size := by have := hT7.size; omega
                have hp7 : P7.length ≤ 50000 := by
                  have h1 := (feedD_fine De ((L.drop c).take r) HCR.out.st (by obtain ⟨A, _, k⟩ := HCR.out.dec; exact k.le)).many
                  rw [← hP7, List.length_map, List.length_take] at h1
                  omega
                have HD7 := Lib.hid hD7
                have HE7 := Lib.hid hE7
                have HP7 := Lib.hid hP7
                have HT7 := Lib.hid hT7
                have HPW := Lib.hid hpw
                clear hD7 hP7 hT7 hpw
                rcases hE7.slice with ⟨rfl, rfl⟩ | ⟨g7, c7, rfl, _, _⟩
                · clear hE7
                  go_wp2_with (at_builtin; refine wpList_append_own_none rfl _ _ 62 rfl s 67 i0 4 Try.underlying62 hi _ _ _ rfl hraw rfl ?_)
                  go_roundw
                  case rel => exact ⟨j + 1, c + r, _, _, _, P ++ [], _, by omega, by go_num, rfl, by omega, by omega, CR.next HCR.out HN.out hcr (by omega) hds hsz HD7.out HE7.out HP7.out HT7.out (more_none HPW.out) (grown_refl _ _) (HREST.out _ _)⟩
                  case measure => simp [intOf]; omega
                · have hc7 : ∀ (i : Nat) (y : Value), (evC P7)[i]? = some y → W7.cell? ((⟨g7, 0, none⟩ : Addr).add i) = some y := fun i y hy => World.ownsRow.cells hE7.row (g := g7) rfl i y hy
                  have HC7 := Lib.hid hc7
                  obtain ⟨m7, hm7⟩ : ∃ m7, m7 = P7.length := ⟨_, rfl⟩
                  have hl7 : (evC P7).length = m7 * 4 := by rw [evC_length, hm7]
                  rw [← hm7] at hp7
                  have HM7 := Lib.hid hm7
                  rw [← hm7]
                  clear hE7 hc7 hm7
                  go_wp2_with (at_builtin; refine wpList_append_own _ rfl _ _ 62 rfl s 67 i0 (.agg #[.int .i64 0, .int .u8 0, .int .u8 0, .slice none 0 0]) 4 40 Try.underlying62 hi hz0 hz1 hz2 rfl (by decide) _ _ _ rfl hraw ⟨g7, 0, none⟩ m7 c7 (evC P7) rfl hl7 HC7.out (evC_one HE7.out) (by unfold maxLen; omega) (by omega) (by omega) ?_; intro v' w8 hown' hgrow _)
                  go_roundw
                  case rel => exact ⟨j + 1, c + r, _, _, _, P ++ P7, _, by omega, by go_num, rfl, by omega, by omega, CR.next HCR.out HN.out hcr (by omega) hds hsz HD7.out HE7.out HP7.out HT7.out (by rw [← HPL.out, ← HM7.out]; exact hown') hgrow (HREST.out _ _)⟩
                  case measure => simp [intOf]; omega
        · obtain rfl : m = j := by omega
          have htr : (L.drop c).take r = L.drop c := List.take_of_length_le (by rw [List.length_drop]; have := HN.out; omega)
          have hz0 : L.drop (c + r) = [] := List.drop_eq_nil_of_le (by have := HN.out; omega)
          have HTR := Lib.hid htr
          have HZ0 := Lib.hid hz0
          clear htr hz0
          go_wp2_with fail
          refine (feed_any (d + 1) De _ ((L.drop c).take r) wr HCR.out.dec HCR.out.st (by rw [HTR.out]; exact HCR.out.rest.mono fun k hk => by omega) (by rw [List.length_take]; omega)).mono ?_
          rintro e W7 ⟨v7, P7, rfl, hD7, hE7, hP7, hT7⟩
          have hpw := HCR.out.parts.turn hT7 (fun k hk => by omega)
          have hraw := hpw.row
          rw [← HPL.out] at hraw
          have hs7 : s ≤ W7.heap.size := by have := hT7.size; omega
          have hp7 : P7.length ≤ 50000 := by
            have h1 := (feedD_fine De ((L.drop c).take r) HCR.out.st (by obtain ⟨A, _, k⟩ := HCR.out.dec; exact k.le)).many
            rw [← hP7, List.length_map, List.length_take] at h1
            omega
          have HD7 := Lib.hid hD7
          have HE7 := Lib.hid hE7
          have HP7 := Lib.hid hP7
          have HT7 := Lib.hid hT7
          have HPW := Lib.hid hpw
          clear hD7 hP7 hT7 hpw
          rcases hE7.slice with ⟨rfl, rfl⟩ | ⟨g7, c7, rfl, _, _⟩
          · clear hE7
            go_wp2_with (at_builtin; refine wpList_append_own_none rfl _ _ 62 rfl s 67 i0 4 Try.underlying62 hi _ _ _ rfl hraw rfl ?_)
            have hCF := CR.next (r' := 0) (kc' := 0) (rest' := .slice none 0 0) HCR.out HN.out hcr (Nat.le_refl r) hds hsz HD7.out HE7.out HP7.out HT7.out (more_none HPW.out) (grown_refl _ _) (by rw [HZ0.out]; exact RowIn.zero none 0)
            obtain ⟨w8, hw8⟩ : ∃ w8, w8 = W7 := ⟨_, rfl⟩
            obtain ⟨Df, hDf⟩ : ∃ Df, Df = (feedD De ((L.drop c).take r)).1 := ⟨_, rfl⟩
            rw [← hw8, ← hDf] at hCF
            rw [← hw8]
            clear hw8 hDf HD7 HE7 HP7 HT7 HPW hraw hs7 HCR HEC
            have hec8 := HEC6.out.turn2 hds hs6 hCF.t hCF.dec
            have HEC8 := Lib.hid hec8
            have HJN : Hid (runM ((P ++ ([] : List EvP)).map (·.1)) = ⟨[], false, X, 0⟩) := Lib.hid (by
              have h1 := hCF.ok
              rw [List.take_of_length_le (by have := HN.out; omega), HLD.out] at h1
              exact run_parts X h1 (fun r hr => by have := HX5.out r hr; omega))
            have hev8 := hCF.parts.evsAt
            have hl8 : ((P ++ ([] : List EvP)).map (·.1)).length ≤ 100000 := by
              have := hCF.len
              rw [List.length_map]
              omega

            have ht8 := hCF.tot
            have HEV8 := Lib.hid hev8
            have HX8 := Lib.hid (HX.out.below HEC8.out.old)
            clear hCF hec8 hev8
            go_wp2_with fail
            refine (all_any _ _ w8 HEV8.out (by omega) (fun e he => by have := tot_mem he; omega)).mono ?_
            rw [HJN.out]
            rintro e w9 ⟨u9, R9, rfl, hR9, hm9, b9⟩
            have hR8 := hR9.rows8
            rw [hm9] at hR8
            simp only at hR8
            have HR9 := Lib.hid hR8
            have HX9 := Lib.hid (HX8.out.below b9)
            have HB9 := Lib.hid (HEC8.out.old.trans (b9.mono HEC8.out.old.size))
            obtain ⟨ga9, gc9, rfl⟩ := hR9.form
            clear hR8 hR9 hm9 b9
            go_wp2_with fail
            refine (sameAll_true _ _ X w9 HR9.out HX9.out (by have := HNX.out; omega) (fun r hr => by have := HX5.out r hr; omega)).mono ?_
            rintro e w' ⟨rfl, nd2, rfl⟩
            go_wp2_with fail
            go_ret
            exact ⟨rfl, below_drewN HB9.out _⟩
          · have hc7 : ∀ (i : Nat) (y : Value), (evC P7)[i]? = some y → W7.cell? ((⟨g7, 0, none⟩ : Addr).add i) = some y := fun i y hy => World.ownsRow.cells hE7.row (g := g7) rfl i y hy
            have HC7 := Lib.hid hc7
            obtain ⟨m7, hm7⟩ : ∃ m7, m7 = P7.length := ⟨_, rfl⟩
            have hl7 : (evC P7).length = m7 * 4 := by rw [evC_length, hm7]
            rw [← hm7] at hp7
            have HM7 := Lib.hid hm7
            rw [← hm7]
            clear hE7 hc7 hm7
            go_wp2_with (at_builtin; refine wpList_append_own _ rfl _ _ 62 rfl s 67 i0 (.agg #[.int .i64 0, .int .u8 0, .int .u8 0, .slice none 0 0]) 4 40 Try.underlying62 hi hz0 hz1 hz2 rfl (by decide) _ _ _ rfl hraw ⟨g7, 0, none⟩ m7 c7 (evC P7) rfl hl7 HC7.out (evC_one HE7.out) (by unfold maxLen; omega) (by omega) (by omega) ?_; intro v' w8 hown' hgrow _; have hCF := CR.next (r' := 0) (kc' := 0) (rest' := .slice none 0 0) HCR.out HN.out hcr (Nat.le_refl r) hds hsz HD7.out HE7.out HP7.out HT7.out (by rw [← HPL.out, ← HM7.out]; exact hown') hgrow (by rw [HZ0.out]; exact RowIn.zero none 0); obtain ⟨Df, hDf⟩ : ∃ Df, Df = (feedD De ((L.drop c).take r)).1 := ⟨_, rfl⟩; rw [← hDf] at hCF; have HCF := Lib.hid hCF; clear hCF hDf hown' hgrow hl7)
            have hCF := HCF.out
            clear HD7 HE7 HP7 HT7 HPW hraw hs7 HCR HEC HCF
            have hec8 := HEC6.out.turn2 hds hs6 hCF.t hCF.dec
            have HEC8 := Lib.hid hec8
            have HJN : Hid (runM ((P ++ P7).map (·.1)) = ⟨[], false, X, 0⟩) := Lib.hid (by
              have h1 := hCF.ok
              rw [List.take_of_length_le (by have := HN.out; omega), HLD.out] at h1
              exact run_parts X h1 (fun r hr => by have := HX5.out r hr; omega))
            have hev8 := hCF.parts.evsAt
            have hl8 : ((P ++ P7).map (·.1)).length ≤ 100000 := by
              have := hCF.len
              rw [List.length_map]
              omega

            have ht8 := hCF.tot
            have HEV8 := Lib.hid hev8
            have HX8 := Lib.hid (HX.out.below HEC8.out.old)
            clear hCF hec8 hev8
            go_wp2_with fail
            refine (all_any _ _ w8 HEV8.out (by omega) (fun e he => by have := tot_mem he; omega)).mono ?_
            rw [HJN.out]
            rintro e w9 ⟨u9, R9, rfl, hR9, hm9, b9⟩
            have hR8 := hR9.rows8
            rw [hm9] at hR8
            simp only at hR8
            have HR9 := Lib.hid hR8
            have HX9 := Lib.hid (HX8.out.below b9)
            have HB9 := Lib.hid (HEC8.out.old.trans (b9.mono HEC8.out.old.size))
            obtain ⟨ga9, gc9, rfl⟩ := hR9.form
            clear hR8 hR9 hm9 b9
            go_wp2_with fail
            refine (sameAll_true _ _ X w9 HR9.out HX9.out (by have := HNX.out; omega) (fun r hr => by have := HX5.out r hr; omega)).mono ?_
            rintro e w' ⟨rfl, nd2, rfl⟩
            go_wp2_with fail
            go_ret
            exact ⟨rfl, below_drewN HB9.out _⟩
end Go.Proofs.Ytfijcdidcnfadaa.Rec
