/-
  Parse of all commands.
-/
import Derived.Test.YtmmgebiojpnhcaaDoorCmdH
namespace Go.Proofs.YtmmgebiojpnhcaaDoor.Cmd
open Go.RowKit Base Go.Proofs.YtmmgebiojpnhcaaDoor.Ord
set_option linter.unusedVariables false
set_option linter.unusedSimpArgs false

theorem keep_putF {s B : Nat} {W : World} {u : Value} {Q : List FlP} (h : FlsOwn B W u Q) (hB : s < B) (x0 x1 x2 x3 x4 : Value) : FlsOwn s (put5 W s x0 x1 x2 x3 x4) u Q := by
  have t := put5_turn W s x0 x1 x2 x3 x4
  exact (h.keep fun g hg hl => t.block g hl fun e => by have : g = s := e; omega).lower (Nat.le_of_lt hB)
set_option maxRecDepth 100000 in
set_option maxHeartbeats 4000000 in
theorem cparse_any {w : World} (ht : Tbl w) (v : Value) (L : List Int) (hc : CutRow w v L) (hb : ∀ x ∈ L, 0 ≤ x ∧ x < 256) (hm : L.length ≤ 1000000) :
    Calls Tryd.prog 8 #[v] w (CmP w (cmdM L)) := by
  by_cases hW : L ≠ [] ∧ toldK (nthL L 0) = 243
  case neg =>
    rw [oneM_of hW]
    exact (one_any ht v L hc hb hm fun h1 h2 => hW ⟨h1, h2⟩).mono fun e w' h => h.cm (oneM_fields L)
  have HK0 := Lib.hid (KQ.start ht hc)
  obtain ⟨a, c, rfl⟩ : ∃ a c, v = .slice a L.length c := by obtain ⟨_, a, c, e, _⟩ := hc; exact ⟨a, c, e⟩
  obtain ⟨n, hn⟩ : ∃ n, n = L.length := ⟨_, rfl⟩
  obtain ⟨s, hs⟩ : ∃ s, s = w.heap.size := ⟨_, rfl⟩
  obtain ⟨W0, hW0⟩ : ∃ W0, W0 = w.alloc (.cells #[.int .u8 0, .int .u8 0, .slice none 0 0, .int .i64 0, .slice none 0 0] 28) := ⟨_, rfl⟩
  rw [← hW0, ← hs, ← hn] at HK0
  have HE : Hid (cmdM L = (⟨243, 0, [], (fieldsM L.length (L.drop 1)).2, (fieldsM L.length (L.drop 1)).1⟩, 0)) := Lib.hid (by unfold cmdM; rw [if_pos hW])
  rw [← hn] at hc ⊢
  have HCW := Lib.hid hc
  have HW0 := Lib.hid hW0.symm
  have HS := Lib.hid hs.symm
  have HN := Lib.hid hn
  have HBY := Lib.hid hb
  have HMX := Lib.hid hm
  have hnpos : 0 < n := by rw [hn]; exact List.length_pos_iff.2 hW.1
  have HL0 := Lib.hid hW.1
  obtain ⟨-, hncap, b, off, rfl, hcell⟩ := CutRow.nth HK0.out.cut hnpos
  have HNC := Lib.hid hncap
  obtain ⟨x, hx⟩ : ∃ x, x = nthL L 0 := ⟨_, rfl⟩
  have c0 : W0.cell? ⟨b, off, none⟩ = some (.int .u8 x) := by rw [hx]; exact hcell 0 hnpos
  have HTOLD : Hid (∀ W, Tbl W → Calls Tryd.prog 20 #[.int .u8 x] W fun e w' => e = .returned (.int .u8 243) ∧ Below W.heap.size W w') := Lib.hid (fun W h => by rw [← hW.2, ← hx]; exact told_any h x)
  have HX := Lib.hid hx
  have hn00 : ((n : Int) == 0) = false := by simp; omega
  have hi0 : (0 : Int) < (n : Int) := by omega
  have H0C : Hid (∀ W, KQ w s (.slice (some ⟨b, off, none⟩) n c) L W → W.cell? ⟨b, off, none⟩ = some (.int .u8 x)) := Lib.hid (fun W h => by
    obtain ⟨_, _, b2, off2, e, hi⟩ := CutRow.nth h.cut hnpos
    cases e
    have := hi 0 hnpos
    rw [HX.out]; exact this)
  have HPB : Hid (∀ x ∈ L.drop 1, 0 ≤ x ∧ x < 256) := Lib.hid fun x hx => HBY.out x (List.mem_of_mem_drop hx)
  have HPM : Hid ((L.drop 1).length ≤ 1000000) := Lib.hid (by rw [List.length_drop]; have := HMX.out; omega)
  have HLD : Hid ((L.drop 1).length + 1 = L.length) := Lib.hid (by rw [List.length_drop]; have := HN.out; omega)
  have HCUT : Hid (∀ W, CutRow W (.slice (some ⟨b, off, none⟩) n c) L → CutRow W (sliced (some ⟨b, off, none⟩) 1 n c 1) (L.drop 1)) := Lib.hid (fun W h => by
    have h3 := slice_mid h 1 n (by omega) (Nat.le_refl _)
    rwa [List.take_of_length_le (by rw [← HN.out]; exact Nat.le_refl _)] at h3)
  obtain ⟨vs, hvs⟩ : ∃ vs, vs = sliced (some ⟨b, off, none⟩) 1 n c 1 := ⟨_, rfl⟩
  have hsl : ∀ W, (Instr.slice 22 (.slice (some ⟨b, off, none⟩) n c) (some (.int .i64 1)) none none).run Tryd.prog W = .ok vs W := fun W => by rw [hvs]; exact slice_run_from 1 (by omega) HNC.out W
  rw [← hvs] at HCUT
  have hi1 : (1 : Int) ≤ (n : Int) := by omega
  clear hW hx hcell hn hncap hvs hW0 hs hc hb hm ht
  go_enter Tryd.func8, Tryd.ntmps8
  go_upto_region 1 with fail
  rw [HW0.out, HS.out]
  go_wp2_with fail
  refine (HTOLD.out _ HK0.out.tb).mono ?_
  rintro e W1 ⟨rfl, b1⟩
  have HK1 := Lib.hid (HK0.out.below b1)
  clear b1 c0
  have c0 := H0C.out _ HK1.out
  go_wp2_with fail
  refine (HTOLD.out _ HK1.out.tb).mono ?_
  rintro e W2 ⟨rfl, b2⟩
  have HK2 := Lib.hid (HK1.out.below b2)
  clear b2 c0
  have HK3 := Lib.hid (HK2.out.below (below_alloc W2 (.cells #[.int .u8 243, .int .u8 0, .slice none 0 0, .int .i64 0, .slice none 0 0] 28)))
  have hq := heap_alloc_new W2 (.cells #[.int .u8 243, .int .u8 0, .slice none 0 0, .int .i64 0, .slice none 0 0] 28)
  have hsq := lt_of_block HK2.out.res
  obtain ⟨W3, hW3⟩ : ∃ W3, W3 = W2.alloc (.cells #[.int .u8 243, .int .u8 0, .slice none 0 0, .int .i64 0, .slice none 0 0] 28) := ⟨_, rfl⟩
  obtain ⟨q, hqq⟩ : ∃ q, q = W2.heap.size := ⟨_, rfl⟩
  rw [← hW3] at hq HK3
  rw [← hqq] at hq hsq
  have HW3 := Lib.hid hW3.symm
  have HQQ := Lib.hid hqq.symm
  clear hW3 hqq
  obtain ⟨e0, e1, e2, e3, e4, y0, y1, y2, y3, y4⟩ := cells5 hq
  have HQ3 := Lib.hid hq
  have HSZ : Hid (q < W3.heap.size) := Lib.hid (lt_of_block hq)
  go_upto_region 4 with fail
  rw [HW3.out, HQQ.out]
  go_wp2_with fail
  refine (fields_any HK3.out.tb vs (L.drop 1) (HCUT.out _ HK3.out.cut) HPB.out HPM.out).mono ?_
  rintro e W4 ⟨u, Q, he, hQ, hQm, b4⟩
  rw [HLD.out] at he hQm
  obtain ⟨⟨fs, E⟩, hT⟩ : ∃ T, T = fieldsM L.length (L.drop 1) := ⟨_, rfl⟩
  rw [← hT] at he hQm HE
  subst he
  have HR4 := Lib.hid (HK3.out.kr.below b4)
  have hq4 := (b4.block q HSZ.out).trans HQ3.out
  have HQ4 := Lib.hid hQ
  have HQM := Lib.hid hQm
  obtain ⟨ua, uc, rfl⟩ := hQ.form
  obtain ⟨um, hum⟩ : ∃ um, um = Q.length := ⟨_, rfl⟩
  rw [← hum] at HQ4 ⊢
  have HT4 := Lib.hid ((turn_set W4 q 4 (.slice ua um uc)).trans (turn_set _ q 3 (.int .i64 E)))
  have HR5 := Lib.hid (HR4.out.turn hsq HT4.out)
  have HP5 := Lib.hid (HQ4.out.keep (w' := (W4.setCell ⟨q, 4, none⟩ (.slice ua um uc)).setCell ⟨q, 3, none⟩ (.int .i64 E)) fun g hg hl => HT4.out.block g hl fun e => by have : g = q := e; have := HSZ.out; omega)
  clear b4 hQ hQm e0 e1 e2 e3 e4 y0 y1 y2 y3 y4 hum hq hsl hT
  obtain ⟨e0, e1, e2, e3, e4, y0, y1, y2, y3, y4⟩ := cells5 hq4
  clear hq4
  have hsS : s ≠ q := by omega
  obtain ⟨d0, d1, d2, d3, d4, z0, z1, z2, z3, z4⟩ := cells5 HR4.out.res
  go_wp2_with fail
  obtain ⟨q1, q2⟩ := HR5.out.fin (.int .u8 243) (.int .u8 0) (.slice none 0 0) (.int .i64 E) (.slice ua um uc)
  have HP6 := keep_putF (s := s) HP5.out (by have := HSZ.out; omega) (.int .u8 243) (.int .u8 0) (.slice none 0 0) (.int .i64 E) (.slice ua um uc)
  refine bodyPost_ret (results_row_tmp rfl _ _ s _ rfl q2) rfl ?_
  rw [HE.out]
  exact ⟨_, rfl, ⟨_, _, [], Q, rfl, OrdsOwn.nil _ _, rfl, by rw [HS.out]; exact HP6, HQM.out⟩, q1⟩
end Go.Proofs.YtmmgebiojpnhcaaDoor.Cmd
