/-
  The walk of HeaderBack.
-/
import Derived.Test.YtfijcdidcnfadaaHeadE
import Derived.Test.YtfijcdidcnfadaaOpenH
import Derived.Test.YtfijcdidcnfadaaSame
namespace Go.Proofs.Ytfijcdidcnfadaa.Head
open Go.RowKit Base
set_option linter.unusedVariables false

theorem hd_ok {a b c d : Int} (h1 : (Lit.int .u8 a).wf = true) (h2 : (Lit.int .u8 b).wf = true) (h3 : (Lit.int .u8 c).wf = true) (h4 : (Lit.int .u16 d).wf = true) : Hd.Ok ⟨a, b, c, d⟩ := by
  have b1 := u8_bd h1
  have b2 := u8_bd h2
  have b3 := u8_bd h3
  have b4 : 0 ≤ d ∧ d ≤ 65535 := by simp [Lit.wf, IntKind.min, IntKind.max, IntKind.bits, IntKind.signed] at h4; omega
  exact ⟨b1.1, b1.2, b2.1, b2.2, b3.1, b3.2, b4.1, b4.2⟩
theorem same_t (u v : Value) (A : List Int) (w : World) (hA : RowOf .u8 w u A) (hB : RowOf .u8 w v A) (hm : A.length ≤ maxLen) : Calls Try.prog 22 #[u, v] w fun e w' => e = .returned (.bool true) ∧ ∃ n, w' = w.drewN n := by
  have := same_any u v A A w hA hB hm
  simpa using this
theorem hdL_bytes (h : Hd) (hk : h.Ok) (M : List Int) (hM : ∀ x ∈ M, 0 ≤ x ∧ x < 256) : ∀ x ∈ hdL h ++ M, 0 ≤ x ∧ x < 256 := by
  obtain ⟨t0, t1, q0, q1, r0, r1, s0, s1⟩ := hk
  intro x hx
  rcases List.mem_append.1 hx with hx | hx
  · unfold hdL at hx
    simp only [List.mem_cons, List.not_mem_nil, or_false] at hx
    rcases hx with rfl | rfl | rfl | rfl | rfl <;> omega
  · exact hM x hx
theorem head_of (h : Hd) (M : List Int) (hk : h.Ok) : headOf (hdL h ++ M) = h := by
  obtain ⟨a, b, c, d⟩ := h
  show Hd.mk a b c (d / 256 * 256 + d % 256) = _
  rw [show d / 256 * 256 + d % 256 = d by omega]
theorem cut_nil {w : World} {v : Value} {L : List Int} (h : CutRow w v L) : ∀ n c, v = .slice none n c → c = 0 := by
  obtain ⟨_, a, c, rfl, _, h⟩ := h
  intro n c' e
  injection e with e1 e2 e3
  rw [← e3]; exact h e1
/-- The record that answers one is a response of that number. -/
theorem ans_form (h : Hd) (hk : h.Ok) (e : Int) (M : List Int) (ha : ansL h e = some M) : ∃ r c, M = hdL ⟨2, 0, r, h.seq⟩ ++ [c] ∧ (0 ≤ c ∧ c < 256) ∧ (e = 0 ∧ r = 0 ∧ c = 0 ∨ e ≠ 0 ∧ r = 1 ∧ c = codeB e) := by
  unfold ansL at ha
  split at ha
  · cases ha
  · split at ha
    · rename_i h1 h2
      injection ha with ha
      exact ⟨0, 0, by rw [← ha]; rfl, by omega, .inl ⟨h2.1, rfl, rfl⟩⟩
    · split at ha
      · rename_i h1 h2 h3
        injection ha with ha
        exact ⟨1, codeB e, by rw [← ha]; rfl, by unfold codeB; split <;> omega, .inr ⟨h3.1, rfl, rfl⟩⟩
      · cases ha
set_option maxRecDepth 100000 in
set_option maxHeartbeats 4000000 in
theorem headerBack_law {w : World} (h : Hd) (hk : h.Ok) (e : Int) (hwf : (Lit.int .i64 e).wf = true) (v : Value) (L : List Int) (hL : CutRow w v L ∧ L.length ≤ maxLen ∧ ∀ n ∈ L, Open.Byte n) :
    Calls Try.prog 4 #[.agg (hdA h), .int .i64 e, v] w fun e W' => e = .returned (.bool true) ∧ Below w.heap.size w W' := by
  have hz := (zero_of_info info_hd).1
  obtain ⟨hc, hl, hby⟩ := hL
  have HC := Lib.hid hc
  have HBY := Lib.hid hby
  have HKO := Lib.hid hk
  obtain ⟨_, av, cv, rfl, _, _⟩ := hc
  obtain ⟨m, hm⟩ : ∃ m, m = L.length := ⟨_, rfl⟩
  have HM := Lib.hid hm
  unfold maxLen at hl
  rw [← hm] at hl HC ⊢
  have hb0 := below_alloc w (.cells (hdA h) 25)
  have HAQ : Hid (AQ w w.heap.size (hdA h) (w.alloc (.cells (hdA h) 25))) := Lib.hid ⟨hb0, heap_alloc_new w _, rfl⟩
  obtain ⟨W0, hW0⟩ : ∃ W0, W0 = w.alloc (.cells (hdA h) 25) := ⟨_, rfl⟩
  rw [← hW0] at HAQ
  have HW0 := Lib.hid hW0.symm
  obtain ⟨g, hg⟩ : ∃ g, g = w.heap.size := ⟨_, rfl⟩
  have HG := Lib.hid hg.symm
  rw [← hg] at HAQ
  clear hm hby hb0 hW0 hg hwf
  by_cases hbig : 300 < m
  · have hbig' : (300 : Int) < m := by omega
    obtain ⟨ty, rq, rs, sq⟩ := h
    unfold hdA at HW0 HAQ ⊢
    simp only at HW0 HAQ ⊢
    go_enter Try.func4, Try.ntmps4
    go_upto_region 1 with fail
    rw [HW0.out, HG.out]
    go_wp2_with fail
    refine (head_alive W0).mono ?_
    rintro e W1 ⟨rfl, b1⟩
    have HQ1 := Lib.hid (HAQ.out.below b1)
    clear b1
    go_wp2_with fail
    go_ret
    exact ⟨rfl, HQ1.out.old⟩
  -- CASES
  have hsm : (m : Int) ≤ 300 := by omega
  have HSM : Hid (L.length ≤ 300) := Lib.hid (by rw [← HM.out]; omega)
  obtain ⟨o, ho⟩ : ∃ o, o = ansL h e := ⟨_, rfl⟩
  have HO := Lib.hid ho.symm
  obtain ⟨ty, rq, rs, sq⟩ := h
  have HWR : Hid (∀ W : World, Below w.heap.size w W → RowOf .u8 W (.slice av m cv) L) := Lib.hid fun W hb => HC.out.1.below hb
  unfold hdA at HW0 HAQ ⊢
  simp only at HW0 HAQ ⊢
  clear hl hbig ho
  by_cases hty : ty ≤ 8
  · skip
    have HTY := Lib.hid hty
    clear hty
    cases o with
    | none =>
      go_enter Try.func4, Try.ntmps4
      go_upto_region 1 with fail
      rw [HW0.out, HG.out]
      go_wp2_with fail
      refine (head_alive W0).mono ?_
      rintro e W1 ⟨rfl, b1⟩
      have HQ1 := Lib.hid (HAQ.out.below b1)
      clear b1
      obtain ⟨c0, c1, c2, c3, _⟩ := HQ1.out.s
      go_wp2_with fail
      refine (hwrite_any ⟨ty, rq, rs, sq⟩ HKO.out _ L W1 (HWR.out _ HQ1.out.old) (cut_nil HC.out) (by have := HSM.out; omega)).mono ?_
      rintro e W2 ⟨p, rfl, hp, hb2⟩
      have HP2 := Lib.hid hp
      have HQ2 := Lib.hid (HQ1.out.below hb2)
      clear hp hb2 c0 c1 c2 c3
      go_wp2_with fail
      refine (parse_at ⟨ty, rq, rs, sq⟩ L p _ W2 rfl (head_of _ L HKO.out) HP2.out.cut (by have := HSM.out; simp [hdL]; omega) (hdL_bytes _ HKO.out L fun x hx => HBY.out x hx) HTY.out).mono ?_
      rintro e W3 ⟨q, rfl, hq, hb3⟩
      simp only [hdA]
      have hq4 := hq.row.below (below_alloc W3 (.cells #[.int .u8 ty, .int .u8 rq, .int .u8 rs, .int .u16 sq] 25))
      have hqq := (HQ2.out.below hb3).alloc (.cells #[.int .u8 ty, .int .u8 rq, .int .u8 rs, .int .u16 sq] 25)
      obtain ⟨W4, hW4⟩ : ∃ W4, W4 = W3.alloc (.cells #[.int .u8 ty, .int .u8 rq, .int .u8 rs, .int .u16 sq] 25) := ⟨_, rfl⟩
      have hblk : W4.heap[W3.heap.size]? = some (.cells #[.int .u8 ty, .int .u8 rq, .int .u8 rs, .int .u16 sq] 25 (0, 0)) := by rw [hW4]; exact heap_alloc_new W3 _
      rw [← hW4] at hq4 hqq
      have HW4 := Lib.hid hW4.symm
      have HQ4 := Lib.hid hqq
      have HR4 := Lib.hid hq4
      have d0 : W4.cell? ⟨W3.heap.size, 0, none⟩ = some (.int .u8 ty) := by simp [World.cell?, hblk]
      have d1 : W4.cell? ⟨W3.heap.size, 1, none⟩ = some (.int .u8 rq) := by simp [World.cell?, hblk]
      have d2 : W4.cell? ⟨W3.heap.size, 2, none⟩ = some (.int .u8 rs) := by simp [World.cell?, hblk]
      have d3 : W4.cell? ⟨W3.heap.size, 3, none⟩ = some (.int .u16 sq) := by simp [World.cell?, hblk]
      obtain ⟨c0, c1, c2, c3, _⟩ := HQ4.out.s
      have t8 := HTY.out
      clear hq hb3 hq4 hqq hW4 hblk
      go_upto_region 6 with fail
      rw [HW4.out]
      go_wp2_with fail
      refine (same_t _ _ L W4 HR4.out (HWR.out _ HQ4.out.old) (by have := HSM.out; unfold maxLen; omega)).mono ?_
      rintro e W5 ⟨rfl, nn, hW5⟩
      have HQ5 : Hid (AQ w g #[.int .u8 ty, .int .u8 rq, .int .u8 rs, .int .u16 sq] W5) := Lib.hid (by rw [hW5]; exact HQ4.out.below (below_drewN (Below.refl _ W4) nn))
      clear hW5 d0 d1 d2 d3 c0 c1 c2 c3
      obtain ⟨c0, c1, c2, c3, _⟩ := HQ5.out.s
      go_wp2_with fail
      refine (ans_none ⟨ty, rq, rs, sq⟩ HKO.out _ W5 HO.out).mono ?_
      rintro e W6 ⟨rfl, hb6⟩
      have HQ6 := Lib.hid (HQ5.out.below hb6)
      clear hb6
      go_wp2_with fail
      go_ret
      exact ⟨rfl, HQ6.out.old⟩
    | some M =>
      have hf := ans_form _ HKO.out e M HO.out
      obtain ⟨r, c, rfl, hcc, hec⟩ := hf
      simp only at HO
      rcases hec with ⟨rfl, rfl, rfl⟩ | ⟨he0, rfl, rfl⟩
      · have HK2 : Hid (Hd.Ok ⟨2, 0, 0, sq⟩) := Lib.hid ⟨by simp, by simp, by simp, by simp, by simp, by simp, HKO.out.sq0, HKO.out.sq1⟩
        have HCC := Lib.hid hcc
        clear hcc
        go_enter Try.func4, Try.ntmps4
        go_upto_region 1 with fail
        rw [HW0.out, HG.out]
        go_wp2_with fail
        refine (head_alive W0).mono ?_
        rintro e W1 ⟨rfl, b1⟩
        have HQ1 := Lib.hid (HAQ.out.below b1)
        clear b1
        obtain ⟨c0, c1, c2, c3, _⟩ := HQ1.out.s
        go_wp2_with fail
        refine (hwrite_any ⟨ty, rq, rs, sq⟩ HKO.out _ L W1 (HWR.out _ HQ1.out.old) (cut_nil HC.out) (by have := HSM.out; omega)).mono ?_
        rintro e W2 ⟨p, rfl, hp, hb2⟩
        have HP2 := Lib.hid hp
        have HQ2 := Lib.hid (HQ1.out.below hb2)
        clear hp hb2 c0 c1 c2 c3
        go_wp2_with fail
        refine (parse_at ⟨ty, rq, rs, sq⟩ L p _ W2 rfl (head_of _ L HKO.out) HP2.out.cut (by have := HSM.out; simp [hdL]; omega) (hdL_bytes _ HKO.out L fun x hx => HBY.out x hx) HTY.out).mono ?_
        rintro e W3 ⟨q, rfl, hq, hb3⟩
        simp only [hdA]
        have hq4 := hq.row.below (below_alloc W3 (.cells #[.int .u8 ty, .int .u8 rq, .int .u8 rs, .int .u16 sq] 25))
        have hqq := (HQ2.out.below hb3).alloc (.cells #[.int .u8 ty, .int .u8 rq, .int .u8 rs, .int .u16 sq] 25)
        obtain ⟨W4, hW4⟩ : ∃ W4, W4 = W3.alloc (.cells #[.int .u8 ty, .int .u8 rq, .int .u8 rs, .int .u16 sq] 25) := ⟨_, rfl⟩
        have hblk : W4.heap[W3.heap.size]? = some (.cells #[.int .u8 ty, .int .u8 rq, .int .u8 rs, .int .u16 sq] 25 (0, 0)) := by rw [hW4]; exact heap_alloc_new W3 _
        rw [← hW4] at hq4 hqq
        have HW4 := Lib.hid hW4.symm
        have HQ4 := Lib.hid hqq
        have HR4 := Lib.hid hq4
        have d0 : W4.cell? ⟨W3.heap.size, 0, none⟩ = some (.int .u8 ty) := by simp [World.cell?, hblk]
        have d1 : W4.cell? ⟨W3.heap.size, 1, none⟩ = some (.int .u8 rq) := by simp [World.cell?, hblk]
        have d2 : W4.cell? ⟨W3.heap.size, 2, none⟩ = some (.int .u8 rs) := by simp [World.cell?, hblk]
        have d3 : W4.cell? ⟨W3.heap.size, 3, none⟩ = some (.int .u16 sq) := by simp [World.cell?, hblk]
        obtain ⟨c0, c1, c2, c3, _⟩ := HQ4.out.s
        have t8 := HTY.out
        clear hq hb3 hq4 hqq hW4 hblk
        go_upto_region 6 with fail
        rw [HW4.out]
        go_wp2_with fail
        refine (same_t _ _ L W4 HR4.out (HWR.out _ HQ4.out.old) (by have := HSM.out; unfold maxLen; omega)).mono ?_
        rintro e W5 ⟨rfl, nn, hW5⟩
        have HQ5 : Hid (AQ w g #[.int .u8 ty, .int .u8 rq, .int .u8 rs, .int .u16 sq] W5) := Lib.hid (by rw [hW5]; exact HQ4.out.below (below_drewN (Below.refl _ W4) nn))
        clear hW5 d0 d1 d2 d3 c0 c1 c2 c3
        obtain ⟨c0, c1, c2, c3, _⟩ := HQ5.out.s
        go_wp2_with fail
        refine (ans_some ⟨ty, rq, rs, sq⟩ HKO.out _ _ W5 HO.out).mono ?_
        rintro e W6 ⟨a, rfl, ha, hb6⟩
        have HQ6 := Lib.hid (HQ5.out.below hb6)
        have HA6 := Lib.hid ha
        clear ha hb6 c0 c1 c2 c3
        go_wp2_with fail
        refine (parse_at ⟨2, 0, 0, sq⟩ [0] a _ W6 rfl (head_of _ _ HK2.out) HA6.out.cut (by simp [hdL]) (hdL_bytes _ HK2.out [0] fun x hx => by rw [List.mem_singleton.1 hx]; exact HCC.out) (by simp)).mono ?_
        rintro e W7 ⟨q2, rfl, hq2, hb7⟩
        simp only [hdA]
        have hq8 := hq2.below (below_alloc W7 (.cells #[.int .u8 2, .int .u8 0, .int .u8 0, .int .u16 sq] 25))
        have hb8 := hb7.trans ((below_alloc W7 (.cells #[.int .u8 2, .int .u8 0, .int .u8 0, .int .u16 sq] 25)).mono hb7.size)
        have hqq8 := HQ6.out.below hb8
        obtain ⟨W8, hW8⟩ : ∃ W8, W8 = W7.alloc (.cells #[.int .u8 2, .int .u8 0, .int .u8 0, .int .u16 sq] 25) := ⟨_, rfl⟩
        have hblk : W8.heap[W7.heap.size]? = some (.cells #[.int .u8 2, .int .u8 0, .int .u8 0, .int .u16 sq] 25 (0, 0)) := by rw [hW8]; exact heap_alloc_new W7 _
        rw [← hW8] at hq8 hb8 hqq8
        have haq : AQ W8 W7.heap.size #[.int .u8 2, .int .u8 0, .int .u8 0, .int .u16 sq] W8 := ⟨Below.refl _ _, hblk, rfl⟩
        have HW8 := Lib.hid hW8.symm
        have HQ8 := Lib.hid hqq8
        have HR8 := Lib.hid hq8.row
        have HAQ8 := Lib.hid haq
        have hlen8 : Hid (∃ aa cc, a = .slice aa 6 cc) := Lib.hid HA6.out.slice
        obtain ⟨d0, d1, d2, d3, _⟩ := haq.s
        clear hq2 hb7 hq8 hb8 hqq8 hW8 hblk haq
        go_upto_region 12 with fail
        rw [show W7.alloc (.cells #[.int .u8 2, .int .u8 0, .int .u8 0, .int .u16 sq] 25) = W8 from HW8.out]
        go_wp2_with fail
        refine (sense_yes ⟨2, 0, 0, sq⟩ _ 0 W8 rfl (by simp) HR8.out).mono ?_
        rintro e W9 ⟨rfl, hb9⟩
        rw [show decide ((⟨2, 0, 0, sq⟩ : Hd).rs = 0) = true from rfl]
        have HQ9 := Lib.hid (HQ8.out.below hb9)
        have HAQ9 := Lib.hid (HAQ8.out.below hb9)
        clear hb9 d0 d1 d2 d3
        obtain ⟨d0, d1, d2, d3, _⟩ := HAQ9.out.s
        obtain ⟨c0, c1, c2, c3, _⟩ := HQ9.out.s
        obtain ⟨aa, cc, rfl⟩ := hlen8.out
        go_wp2_with fail
        go_ret
        exact ⟨rfl, HQ9.out.old⟩
      · have HK2 : Hid (Hd.Ok ⟨2, 0, 1, sq⟩) := Lib.hid ⟨by simp, by simp, by simp, by simp, by simp, by simp, HKO.out.sq0, HKO.out.sq1⟩
        obtain ⟨cb, hcb⟩ : ∃ cb, cb = codeB e := ⟨_, rfl⟩
        rw [← hcb] at HO hcc
        have HCB := Lib.hid hcb.symm
        have HCC := Lib.hid hcc
        have te : (e == 0) = false := by simpa using he0
        clear hcc hcb he0
        go_enter Try.func4, Try.ntmps4
        go_upto_region 1 with fail
        rw [HW0.out, HG.out]
        go_wp2_with fail
        refine (head_alive W0).mono ?_
        rintro e W1 ⟨rfl, b1⟩
        have HQ1 := Lib.hid (HAQ.out.below b1)
        clear b1
        obtain ⟨c0, c1, c2, c3, _⟩ := HQ1.out.s
        go_wp2_with fail
        refine (hwrite_any ⟨ty, rq, rs, sq⟩ HKO.out _ L W1 (HWR.out _ HQ1.out.old) (cut_nil HC.out) (by have := HSM.out; omega)).mono ?_
        rintro e W2 ⟨p, rfl, hp, hb2⟩
        have HP2 := Lib.hid hp
        have HQ2 := Lib.hid (HQ1.out.below hb2)
        clear hp hb2 c0 c1 c2 c3
        go_wp2_with fail
        refine (parse_at ⟨ty, rq, rs, sq⟩ L p _ W2 rfl (head_of _ L HKO.out) HP2.out.cut (by have := HSM.out; simp [hdL]; omega) (hdL_bytes _ HKO.out L fun x hx => HBY.out x hx) HTY.out).mono ?_
        rintro e W3 ⟨q, rfl, hq, hb3⟩
        simp only [hdA]
        have hq4 := hq.row.below (below_alloc W3 (.cells #[.int .u8 ty, .int .u8 rq, .int .u8 rs, .int .u16 sq] 25))
        have hqq := (HQ2.out.below hb3).alloc (.cells #[.int .u8 ty, .int .u8 rq, .int .u8 rs, .int .u16 sq] 25)
        obtain ⟨W4, hW4⟩ : ∃ W4, W4 = W3.alloc (.cells #[.int .u8 ty, .int .u8 rq, .int .u8 rs, .int .u16 sq] 25) := ⟨_, rfl⟩
        have hblk : W4.heap[W3.heap.size]? = some (.cells #[.int .u8 ty, .int .u8 rq, .int .u8 rs, .int .u16 sq] 25 (0, 0)) := by rw [hW4]; exact heap_alloc_new W3 _
        rw [← hW4] at hq4 hqq
        have HW4 := Lib.hid hW4.symm
        have HQ4 := Lib.hid hqq
        have HR4 := Lib.hid hq4
        have d0 : W4.cell? ⟨W3.heap.size, 0, none⟩ = some (.int .u8 ty) := by simp [World.cell?, hblk]
        have d1 : W4.cell? ⟨W3.heap.size, 1, none⟩ = some (.int .u8 rq) := by simp [World.cell?, hblk]
        have d2 : W4.cell? ⟨W3.heap.size, 2, none⟩ = some (.int .u8 rs) := by simp [World.cell?, hblk]
        have d3 : W4.cell? ⟨W3.heap.size, 3, none⟩ = some (.int .u16 sq) := by simp [World.cell?, hblk]
        obtain ⟨c0, c1, c2, c3, _⟩ := HQ4.out.s
        have t8 := HTY.out
        clear hq hb3 hq4 hqq hW4 hblk
        go_upto_region 6 with fail
        rw [HW4.out]
        go_wp2_with fail
        refine (same_t _ _ L W4 HR4.out (HWR.out _ HQ4.out.old) (by have := HSM.out; unfold maxLen; omega)).mono ?_
        rintro e W5 ⟨rfl, nn, hW5⟩
        have HQ5 : Hid (AQ w g #[.int .u8 ty, .int .u8 rq, .int .u8 rs, .int .u16 sq] W5) := Lib.hid (by rw [hW5]; exact HQ4.out.below (below_drewN (Below.refl _ W4) nn))
        clear hW5 d0 d1 d2 d3 c0 c1 c2 c3
        obtain ⟨c0, c1, c2, c3, _⟩ := HQ5.out.s
        go_wp2_with fail
        refine (ans_some ⟨ty, rq, rs, sq⟩ HKO.out _ _ W5 HO.out).mono ?_
        rintro e W6 ⟨a, rfl, ha, hb6⟩
        have HQ6 := Lib.hid (HQ5.out.below hb6)
        have HA6 := Lib.hid ha
        clear ha hb6 c0 c1 c2 c3
        go_wp2_with fail
        refine (parse_at ⟨2, 0, 1, sq⟩ [cb] a _ W6 rfl (head_of _ _ HK2.out) HA6.out.cut (by simp [hdL]) (hdL_bytes _ HK2.out [cb] fun x hx => by rw [List.mem_singleton.1 hx]; exact HCC.out) (by simp)).mono ?_
        rintro e W7 ⟨q2, rfl, hq2, hb7⟩
        simp only [hdA]
        have hq8 := hq2.below (below_alloc W7 (.cells #[.int .u8 2, .int .u8 0, .int .u8 1, .int .u16 sq] 25))
        have hb8 := hb7.trans ((below_alloc W7 (.cells #[.int .u8 2, .int .u8 0, .int .u8 1, .int .u16 sq] 25)).mono hb7.size)
        have hqq8 := HQ6.out.below hb8
        obtain ⟨W8, hW8⟩ : ∃ W8, W8 = W7.alloc (.cells #[.int .u8 2, .int .u8 0, .int .u8 1, .int .u16 sq] 25) := ⟨_, rfl⟩
        have hblk : W8.heap[W7.heap.size]? = some (.cells #[.int .u8 2, .int .u8 0, .int .u8 1, .int .u16 sq] 25 (0, 0)) := by rw [hW8]; exact heap_alloc_new W7 _
        rw [← hW8] at hq8 hb8 hqq8
        have haq : AQ W8 W7.heap.size #[.int .u8 2, .int .u8 0, .int .u8 1, .int .u16 sq] W8 := ⟨Below.refl _ _, hblk, rfl⟩
        have HW8 := Lib.hid hW8.symm
        have HQ8 := Lib.hid hqq8
        have HR8 := Lib.hid hq8.row
        have HAQ8 := Lib.hid haq
        have hlen8 : Hid (∃ aa cc, a = .slice aa 6 cc) := Lib.hid HA6.out.slice
        obtain ⟨d0, d1, d2, d3, _⟩ := haq.s
        clear hq2 hb7 hq8 hb8 hqq8 hW8 hblk haq
        go_upto_region 12 with fail
        rw [show W7.alloc (.cells #[.int .u8 2, .int .u8 0, .int .u8 1, .int .u16 sq] 25) = W8 from HW8.out]
        go_wp2_with fail
        refine (sense_yes ⟨2, 0, 1, sq⟩ _ cb W8 rfl (by simp) HR8.out).mono ?_
        rintro e W9 ⟨rfl, hb9⟩
        rw [show decide ((⟨2, 0, 1, sq⟩ : Hd).rs = 0) = false from rfl]
        have HQ9 := Lib.hid (HQ8.out.below hb9)
        have HAQ9 := Lib.hid (HAQ8.out.below hb9)
        clear hb9 d0 d1 d2 d3
        obtain ⟨d0, d1, d2, d3, _⟩ := HAQ9.out.s
        obtain ⟨c0, c1, c2, c3, _⟩ := HQ9.out.s
        obtain ⟨aa, cc, rfl⟩ := hlen8.out
        go_wp2_with fail
        refine (hcode_any e W9).mono ?_
        rintro e2 W' ⟨rfl, rfl⟩
        rw [HCB.out]
        go_wp2_with fail
        go_ret
        exact ⟨rfl, HQ9.out.old⟩
  · replace hty : 8 < ty := by omega
    have HTY := Lib.hid hty
    clear hty
    cases o with
    | none =>
      go_enter Try.func4, Try.ntmps4
      go_upto_region 1 with fail
      rw [HW0.out, HG.out]
      go_wp2_with fail
      refine (head_alive W0).mono ?_
      rintro e W1 ⟨rfl, b1⟩
      have HQ1 := Lib.hid (HAQ.out.below b1)
      clear b1
      obtain ⟨c0, c1, c2, c3, _⟩ := HQ1.out.s
      go_wp2_with fail
      refine (hwrite_any ⟨ty, rq, rs, sq⟩ HKO.out _ L W1 (HWR.out _ HQ1.out.old) (cut_nil HC.out) (by have := HSM.out; omega)).mono ?_
      rintro e W2 ⟨p, rfl, hp, hb2⟩
      have HP2 := Lib.hid hp
      have HQ2 := Lib.hid (HQ1.out.below hb2)
      clear hp hb2 c0 c1 c2 c3
      go_wp2_with fail
      refine (parse_form p _ W2 HP2.out.row (by simp [hdL]) (by simpa [hdL] using HTY.out) (by simpa [hdL] using HKO.out.ty1)).mono ?_
      rintro e W3 ⟨rfl, hb3⟩
      simp only [hdA, hd0]
      have hqq := (HQ2.out.below hb3).alloc (.cells #[.int .u8 0, .int .u8 0, .int .u8 0, .int .u16 0] 25)
      obtain ⟨W5, hW4⟩ : ∃ W5, W5 = W3.alloc (.cells #[.int .u8 0, .int .u8 0, .int .u8 0, .int .u16 0] 25) := ⟨_, rfl⟩
      rw [← hW4] at hqq
      have HW4 := Lib.hid hW4.symm
      have HQ5 := Lib.hid hqq
      obtain ⟨c0, c1, c2, c3, _⟩ := HQ5.out.s
      have t8 := HTY.out
      clear hb3 hqq hW4
      go_upto_region 6 with fail
      rw [show W3.alloc (.cells #[.int .u8 0, .int .u8 0, .int .u8 0, .int .u16 0] 25) = W5 from HW4.out]
      go_wp2_with fail
      refine (ans_none ⟨ty, rq, rs, sq⟩ HKO.out _ W5 HO.out).mono ?_
      rintro e W6 ⟨rfl, hb6⟩
      have HQ6 := Lib.hid (HQ5.out.below hb6)
      clear hb6
      go_wp2_with fail
      go_ret
      exact ⟨rfl, HQ6.out.old⟩
    | some M =>
      have hf := ans_form _ HKO.out e M HO.out
      obtain ⟨r, c, rfl, hcc, hec⟩ := hf
      simp only at HO
      rcases hec with ⟨rfl, rfl, rfl⟩ | ⟨he0, rfl, rfl⟩
      · have HK2 : Hid (Hd.Ok ⟨2, 0, 0, sq⟩) := Lib.hid ⟨by simp, by simp, by simp, by simp, by simp, by simp, HKO.out.sq0, HKO.out.sq1⟩
        have HCC := Lib.hid hcc
        clear hcc
        go_enter Try.func4, Try.ntmps4
        go_upto_region 1 with fail
        rw [HW0.out, HG.out]
        go_wp2_with fail
        refine (head_alive W0).mono ?_
        rintro e W1 ⟨rfl, b1⟩
        have HQ1 := Lib.hid (HAQ.out.below b1)
        clear b1
        obtain ⟨c0, c1, c2, c3, _⟩ := HQ1.out.s
        go_wp2_with fail
        refine (hwrite_any ⟨ty, rq, rs, sq⟩ HKO.out _ L W1 (HWR.out _ HQ1.out.old) (cut_nil HC.out) (by have := HSM.out; omega)).mono ?_
        rintro e W2 ⟨p, rfl, hp, hb2⟩
        have HP2 := Lib.hid hp
        have HQ2 := Lib.hid (HQ1.out.below hb2)
        clear hp hb2 c0 c1 c2 c3
        go_wp2_with fail
        refine (parse_form p _ W2 HP2.out.row (by simp [hdL]) (by simpa [hdL] using HTY.out) (by simpa [hdL] using HKO.out.ty1)).mono ?_
        rintro e W3 ⟨rfl, hb3⟩
        simp only [hdA, hd0]
        have hqq := (HQ2.out.below hb3).alloc (.cells #[.int .u8 0, .int .u8 0, .int .u8 0, .int .u16 0] 25)
        obtain ⟨W5, hW4⟩ : ∃ W5, W5 = W3.alloc (.cells #[.int .u8 0, .int .u8 0, .int .u8 0, .int .u16 0] 25) := ⟨_, rfl⟩
        rw [← hW4] at hqq
        have HW4 := Lib.hid hW4.symm
        have HQ5 := Lib.hid hqq
        obtain ⟨c0, c1, c2, c3, _⟩ := HQ5.out.s
        have t8 := HTY.out
        clear hb3 hqq hW4
        go_upto_region 6 with fail
        rw [show W3.alloc (.cells #[.int .u8 0, .int .u8 0, .int .u8 0, .int .u16 0] 25) = W5 from HW4.out]
        go_wp2_with fail
        refine (ans_some ⟨ty, rq, rs, sq⟩ HKO.out _ _ W5 HO.out).mono ?_
        rintro e W6 ⟨a, rfl, ha, hb6⟩
        have HQ6 := Lib.hid (HQ5.out.below hb6)
        have HA6 := Lib.hid ha
        clear ha hb6 c0 c1 c2 c3
        go_wp2_with fail
        refine (parse_at ⟨2, 0, 0, sq⟩ [0] a _ W6 rfl (head_of _ _ HK2.out) HA6.out.cut (by simp [hdL]) (hdL_bytes _ HK2.out [0] fun x hx => by rw [List.mem_singleton.1 hx]; exact HCC.out) (by simp)).mono ?_
        rintro e W7 ⟨q2, rfl, hq2, hb7⟩
        simp only [hdA]
        have hq8 := hq2.below (below_alloc W7 (.cells #[.int .u8 2, .int .u8 0, .int .u8 0, .int .u16 sq] 25))
        have hb8 := hb7.trans ((below_alloc W7 (.cells #[.int .u8 2, .int .u8 0, .int .u8 0, .int .u16 sq] 25)).mono hb7.size)
        have hqq8 := HQ6.out.below hb8
        obtain ⟨W8, hW8⟩ : ∃ W8, W8 = W7.alloc (.cells #[.int .u8 2, .int .u8 0, .int .u8 0, .int .u16 sq] 25) := ⟨_, rfl⟩
        have hblk : W8.heap[W7.heap.size]? = some (.cells #[.int .u8 2, .int .u8 0, .int .u8 0, .int .u16 sq] 25 (0, 0)) := by rw [hW8]; exact heap_alloc_new W7 _
        rw [← hW8] at hq8 hb8 hqq8
        have haq : AQ W8 W7.heap.size #[.int .u8 2, .int .u8 0, .int .u8 0, .int .u16 sq] W8 := ⟨Below.refl _ _, hblk, rfl⟩
        have HW8 := Lib.hid hW8.symm
        have HQ8 := Lib.hid hqq8
        have HR8 := Lib.hid hq8.row
        have HAQ8 := Lib.hid haq
        have hlen8 : Hid (∃ aa cc, a = .slice aa 6 cc) := Lib.hid HA6.out.slice
        obtain ⟨d0, d1, d2, d3, _⟩ := haq.s
        clear hq2 hb7 hq8 hb8 hqq8 hW8 hblk haq
        go_upto_region 12 with fail
        rw [show W7.alloc (.cells #[.int .u8 2, .int .u8 0, .int .u8 0, .int .u16 sq] 25) = W8 from HW8.out]
        go_wp2_with fail
        refine (sense_yes ⟨2, 0, 0, sq⟩ _ 0 W8 rfl (by simp) HR8.out).mono ?_
        rintro e W9 ⟨rfl, hb9⟩
        rw [show decide ((⟨2, 0, 0, sq⟩ : Hd).rs = 0) = true from rfl]
        have HQ9 := Lib.hid (HQ8.out.below hb9)
        have HAQ9 := Lib.hid (HAQ8.out.below hb9)
        clear hb9 d0 d1 d2 d3
        obtain ⟨d0, d1, d2, d3, _⟩ := HAQ9.out.s
        obtain ⟨c0, c1, c2, c3, _⟩ := HQ9.out.s
        obtain ⟨aa, cc, rfl⟩ := hlen8.out
        go_wp2_with fail
        go_ret
        exact ⟨rfl, HQ9.out.old⟩
      · have HK2 : Hid (Hd.Ok ⟨2, 0, 1, sq⟩) := Lib.hid ⟨by simp, by simp, by simp, by simp, by simp, by simp, HKO.out.sq0, HKO.out.sq1⟩
        obtain ⟨cb, hcb⟩ : ∃ cb, cb = codeB e := ⟨_, rfl⟩
        rw [← hcb] at HO hcc
        have HCB := Lib.hid hcb.symm
        have HCC := Lib.hid hcc
        have te : (e == 0) = false := by simpa using he0
        clear hcc hcb he0
        go_enter Try.func4, Try.ntmps4
        go_upto_region 1 with fail
        rw [HW0.out, HG.out]
        go_wp2_with fail
        refine (head_alive W0).mono ?_
        rintro e W1 ⟨rfl, b1⟩
        have HQ1 := Lib.hid (HAQ.out.below b1)
        clear b1
        obtain ⟨c0, c1, c2, c3, _⟩ := HQ1.out.s
        go_wp2_with fail
        refine (hwrite_any ⟨ty, rq, rs, sq⟩ HKO.out _ L W1 (HWR.out _ HQ1.out.old) (cut_nil HC.out) (by have := HSM.out; omega)).mono ?_
        rintro e W2 ⟨p, rfl, hp, hb2⟩
        have HP2 := Lib.hid hp
        have HQ2 := Lib.hid (HQ1.out.below hb2)
        clear hp hb2 c0 c1 c2 c3
        go_wp2_with fail
        refine (parse_form p _ W2 HP2.out.row (by simp [hdL]) (by simpa [hdL] using HTY.out) (by simpa [hdL] using HKO.out.ty1)).mono ?_
        rintro e W3 ⟨rfl, hb3⟩
        simp only [hdA, hd0]
        have hqq := (HQ2.out.below hb3).alloc (.cells #[.int .u8 0, .int .u8 0, .int .u8 0, .int .u16 0] 25)
        obtain ⟨W5, hW4⟩ : ∃ W5, W5 = W3.alloc (.cells #[.int .u8 0, .int .u8 0, .int .u8 0, .int .u16 0] 25) := ⟨_, rfl⟩
        rw [← hW4] at hqq
        have HW4 := Lib.hid hW4.symm
        have HQ5 := Lib.hid hqq
        obtain ⟨c0, c1, c2, c3, _⟩ := HQ5.out.s
        have t8 := HTY.out
        clear hb3 hqq hW4
        go_upto_region 6 with fail
        rw [show W3.alloc (.cells #[.int .u8 0, .int .u8 0, .int .u8 0, .int .u16 0] 25) = W5 from HW4.out]
        go_wp2_with fail
        refine (ans_some ⟨ty, rq, rs, sq⟩ HKO.out _ _ W5 HO.out).mono ?_
        rintro e W6 ⟨a, rfl, ha, hb6⟩
        have HQ6 := Lib.hid (HQ5.out.below hb6)
        have HA6 := Lib.hid ha
        clear ha hb6 c0 c1 c2 c3
        go_wp2_with fail
        refine (parse_at ⟨2, 0, 1, sq⟩ [cb] a _ W6 rfl (head_of _ _ HK2.out) HA6.out.cut (by simp [hdL]) (hdL_bytes _ HK2.out [cb] fun x hx => by rw [List.mem_singleton.1 hx]; exact HCC.out) (by simp)).mono ?_
        rintro e W7 ⟨q2, rfl, hq2, hb7⟩
        simp only [hdA]
        have hq8 := hq2.below (below_alloc W7 (.cells #[.int .u8 2, .int .u8 0, .int .u8 1, .int .u16 sq] 25))
        have hb8 := hb7.trans ((below_alloc W7 (.cells #[.int .u8 2, .int .u8 0, .int .u8 1, .int .u16 sq] 25)).mono hb7.size)
        have hqq8 := HQ6.out.below hb8
        obtain ⟨W8, hW8⟩ : ∃ W8, W8 = W7.alloc (.cells #[.int .u8 2, .int .u8 0, .int .u8 1, .int .u16 sq] 25) := ⟨_, rfl⟩
        have hblk : W8.heap[W7.heap.size]? = some (.cells #[.int .u8 2, .int .u8 0, .int .u8 1, .int .u16 sq] 25 (0, 0)) := by rw [hW8]; exact heap_alloc_new W7 _
        rw [← hW8] at hq8 hb8 hqq8
        have haq : AQ W8 W7.heap.size #[.int .u8 2, .int .u8 0, .int .u8 1, .int .u16 sq] W8 := ⟨Below.refl _ _, hblk, rfl⟩
        have HW8 := Lib.hid hW8.symm
        have HQ8 := Lib.hid hqq8
        have HR8 := Lib.hid hq8.row
        have HAQ8 := Lib.hid haq
        have hlen8 : Hid (∃ aa cc, a = .slice aa 6 cc) := Lib.hid HA6.out.slice
        obtain ⟨d0, d1, d2, d3, _⟩ := haq.s
        clear hq2 hb7 hq8 hb8 hqq8 hW8 hblk haq
        go_upto_region 12 with fail
        rw [show W7.alloc (.cells #[.int .u8 2, .int .u8 0, .int .u8 1, .int .u16 sq] 25) = W8 from HW8.out]
        go_wp2_with fail
        refine (sense_yes ⟨2, 0, 1, sq⟩ _ cb W8 rfl (by simp) HR8.out).mono ?_
        rintro e W9 ⟨rfl, hb9⟩
        rw [show decide ((⟨2, 0, 1, sq⟩ : Hd).rs = 0) = false from rfl]
        have HQ9 := Lib.hid (HQ8.out.below hb9)
        have HAQ9 := Lib.hid (HAQ8.out.below hb9)
        clear hb9 d0 d1 d2 d3
        obtain ⟨d0, d1, d2, d3, _⟩ := HAQ9.out.s
        obtain ⟨c0, c1, c2, c3, _⟩ := HQ9.out.s
        obtain ⟨aa, cc, rfl⟩ := hlen8.out
        go_wp2_with fail
        refine (hcode_any e W9).mono ?_
        rintro e2 W' ⟨rfl, rfl⟩
        rw [HCB.out]
        go_wp2_with fail
        go_ret
        exact ⟨rfl, HQ9.out.old⟩
end Go.Proofs.Ytfijcdidcnfadaa.Head
