/-
  The walk of CommandNames.
-/
import Derived.Test.YtmmgebiojpnhcaaDoorCmdP
import Derived.Test.YtmmgebiojpnhcaaDoorOpenH
namespace Go.Proofs.YtmmgebiojpnhcaaDoor.Cmd
open Go.RowKit Base Go.Proofs.YtmmgebiojpnhcaaDoor.Ord
set_option linter.unusedVariables false
set_option linter.unusedSimpArgs false

/-- A byte's kind, name, and the name of its kind. -/
theorem kinds (b : Int) : (toldK b = 0 ∧ nameK b = ⟨#[]⟩) ∨ (∃ k s, toldK b = k ∧ nameK b = s ∧ nameK k = s ∧ ((k, s) = (241, ⟨#[87]⟩) ∨ (k, s) = (245, ⟨#[69, 87]⟩) ∨ (k, s) = (126, ⟨#[69, 87, 65]⟩) ∨ (k, s) = (111, ⟨#[69, 65, 85]⟩) ∨ (k, s) = (242, ⟨#[82, 66]⟩) ∨ (k, s) = (246, ⟨#[82, 77]⟩) ∨ (k, s) = (110, ⟨#[82, 77, 65]⟩) ∨ (k, s) = (243, ⟨#[87, 83, 70]⟩))) := by
  have hb : b = 241 ∨ b = 1 ∨ b = 245 ∨ b = 5 ∨ b = 126 ∨ b = 13 ∨ b = 111 ∨ b = 15 ∨ b = 242 ∨ b = 2 ∨ b = 246 ∨ b = 6 ∨ b = 110 ∨ b = 14 ∨ b = 243 ∨ b = 17 ∨ (∀ m ∈ tabK, hitK b m = false) := by
    by_cases h : ∀ m ∈ tabK, hitK b m = false
    · iterate 16 right
      exact h
    · simp [tabK, hitK] at h
      omega
  rcases hb with rfl | rfl | rfl | rfl | rfl | rfl | rfl | rfl | rfl | rfl | rfl | rfl | rfl | rfl | rfl | rfl | h
  all_goals first
    | exact .inr ⟨_, _, rfl, rfl, by decide +kernel, by decide +kernel⟩
    | (have := findL_none tabK b h; exact .inl ⟨by unfold toldK findK; rw [this], by unfold nameK findK; rw [this]⟩)
theorem cmdM_none {L : List Int} (h : toldK (nthL L 0) = 0) : cmdM L = (Cm.zero, 30) := by
  unfold cmdM
  rw [if_neg (fun e => by rw [h] at e; exact absurd e.2 (by decide))]
  unfold oneM
  by_cases hL : L = []
  · rw [if_pos hL]
  · rw [if_neg hL, if_pos h]
theorem cmdM_some {L : List Int} {k : Int} (h : toldK (nthL L 0) = k) (hk : k ≠ 0) (hL : 2 ≤ L.length) : ∃ C, cmdM L = (C, 0) ∧ C.kind = k ∧ (hasK k = false → k ≠ 243 → C = ⟨k, 0, [], 0, []⟩) := by
  have hne : L ≠ [] := by rintro rfl; simp at hL
  unfold cmdM
  by_cases h2 : k = 243
  · rw [if_pos ⟨hne, h.trans h2⟩]
    exact ⟨_, rfl, h2.symm, fun _ h3 => absurd h2 h3⟩
  · rw [if_neg (fun e => h2 (h.symm.trans e.2))]
    unfold oneM
    rw [if_neg hne, if_neg (by rw [h]; exact hk), h]
    by_cases h3 : hasK k = true
    · rw [if_pos h3, if_neg (by omega)]
      exact ⟨_, rfl, rfl, fun h4 => by rw [h3] at h4; cases h4⟩
    · rw [if_neg h3]
      exact ⟨_, rfl, rfl, fun _ _ => rfl⟩
theorem cmV_form {s : Nat} {w : World} {C : Cm} {V : Value} (h : CmV s w C V) : ∃ (a b : Option Addr) (c d : Nat), V = .agg #[.int .u8 C.kind, .int .u8 C.wcc, .slice a C.ords.length c, .int .i64 C.err, .slice b C.fields.length d] := by
  obtain ⟨vo, vf, P, Q, rfl, h1, h2, h3, h4⟩ := h
  obtain ⟨a, c, rfl⟩ := h1.form
  obtain ⟨b, d, rfl⟩ := h3.form
  exact ⟨a, b, c, d, by rw [← h2, ← h4, List.length_map, List.length_map]⟩
set_option maxRecDepth 100000 in
set_option maxHeartbeats 8000000 in
theorem commandNames_law {w : World} (ht : Tbl w) (b : Int) (hb : (Lit.int .u8 b).wf = true) (v : Value) (M : List Int) (hM : CutRow w v M ∧ M.length ≤ maxLen ∧ ∀ n ∈ M, Open.Byte n) : Calls Tryd.prog 6 #[.int .u8 b, v] w fun e W' => e = .returned (.bool true) ∧ Below w.heap.size w W' := by
  obtain ⟨h0, h1⟩ := u8_bd hb
  clear hb
  obtain ⟨hM, _, hMb⟩ := hM
  obtain ⟨a, c, rfl⟩ : ∃ a c, v = .slice a M.length c := by obtain ⟨_, a, c, e, _⟩ := hM; exact ⟨a, c, e⟩
  have HUC : Hid (∀ x y, (Value.slice a M.length c) = .slice none x y → y = 0) := Lib.hid (fun x y he => by
    obtain ⟨_, _, _, h3, _, h5⟩ := hM
    injection h3 with h6 _ h7
    injection he with h8 _ h9
    subst h7
    rw [← h9]
    exact h5 (by rw [← h6]; exact h8))
  have HM := Lib.hid hM
  have HMB : Hid (∀ n ∈ M, 0 ≤ n ∧ n < 256) := Lib.hid (fun n hn => by have := hMb n hn; unfold Open.Byte at this; omega)
  have HAL := Lib.hid (cmd_alive ht)
  have HT := Lib.hid ht
  obtain ⟨n, hn⟩ : ∃ n, n = M.length := ⟨_, rfl⟩
  rw [← hn] at HM HUC ⊢
  have HN := Lib.hid hn
  clear hM hMb ht hn
  by_cases hl : 300 < n
  · have t1 : (300 : Int) < (n : Int) := by omega
    go_enter Tryd.func6, Tryd.ntmps6
    go_wp2_with fail
    refine HAL.out.mono ?_
    rintro e W1 ⟨rfl, b1⟩
    have HB1 := Lib.hid b1
    clear b1
    go_wp2_with fail
    go_ret
    exact ⟨rfl, HB1.out⟩
  have t1 : ¬ (300 : Int) < (n : Int) := by omega
  have hl300 : n ≤ 300 := by omega
  have HBY : Hid (∀ x ∈ [b, 192] ++ M, 0 ≤ x ∧ x < 256) := Lib.hid (fun x hx => by
    rcases List.mem_append.1 hx with hx | hx
    · rcases List.mem_cons.1 hx with rfl | hx
      · omega
      · obtain rfl : x = 192 := by simpa using hx
        omega
    · exact HMB.out x hx)
  have HLN : Hid (([b, 192] ++ M).length ≤ 1000000) := Lib.hid (by simp; have := HN.out; omega)
  have HL2 : 2 ≤ ([b, 192] ++ M).length := by simp
  have hnth : nthL ([b, 192] ++ M) 0 = b := rfl
  rcases kinds b with ⟨hk, hs⟩ | ⟨k, s, hk, hs, hks, hcases⟩
  · have HC := Lib.hid (cmdM_none (L := [b, 192] ++ M) (by rw [hnth]; exact hk))
    have HNM : Hid (∀ W, Tbl W → Calls Tryd.prog 12 #[.int .u8 b] W fun e w' => e = .returned (.string ⟨#[]⟩) ∧ Below W.heap.size W w') := Lib.hid (fun W h => by rw [← hs]; exact name_any h b)
    clear hk hs HL2 hnth
    go_enter Tryd.func6, Tryd.ntmps6
    go_wp2_with fail
    refine HAL.out.mono ?_
    rintro e W1 ⟨rfl, b1⟩
    have HB1 := Lib.hid b1
    have HM1 := Lib.hid ((HM.out.1.below b1).below (below_alloc W1 (.cells #[.int .u8 b, .int .u8 192] 5)))
    clear b1 HM HAL
    go_wp2_with (at_builtin; go_loud (refine append_row rfl _ _ rfl (new2_own W1 b 192) HM1.out HUC.out rfl rfl (by have := HN.out; simp; omega) (by rw [World.size_alloc]; omega) (w0 := W1) (below_alloc W1 _) ?_); intro v3 W3 hown hold _ _; have HOWN := Lib.hid hown; have HB3 := Lib.hid (HB1.out.trans (hold.mono HB1.out.size)); clear hown hold)
    have hp := cparse_any (HT.out.below HB3.out) v3 ([b, 192] ++ M) HOWN.out.cut HBY.out HLN.out
    rw [HC.out] at hp
    refine hp.mono ?_
    rintro e W4 ⟨V, rfl, hv, b4⟩
    have HB4 := Lib.hid (HB3.out.trans (b4.mono HB3.out.size))
    obtain ⟨za, zb, zm, zc, zk, zd, rfl⟩ := zero_form hv
    clear hv b4 hp
    have HB5 := Lib.hid (HB4.out.trans ((below_alloc W4 (.cells #[.int .u8 0, .int .u8 0, .slice za zm zc, .int .i64 0, .slice zb zk zd] 28)).mono HB4.out.size))
    have hc5 := heap_alloc_new W4 (.cells #[.int .u8 0, .int .u8 0, .slice za zm zc, .int .i64 0, .slice zb zk zd] 28)
    obtain ⟨W5, hW5⟩ : ∃ W5, W5 = W4.alloc (.cells #[.int .u8 0, .int .u8 0, .slice za zm zc, .int .i64 0, .slice zb zk zd] 28) := ⟨_, rfl⟩
    obtain ⟨g, hg⟩ : ∃ g, g = W4.heap.size := ⟨_, rfl⟩
    rw [← hW5] at HB5 hc5
    rw [← hg] at hc5
    have HW5 := Lib.hid hW5.symm
    have HG := Lib.hid hg.symm
    have HC5 := Lib.hid hc5
    clear hW5 hg hc5
    go_upto_region 6 with fail
    rw [HW5.out, HG.out]
    go_wp2_with fail
    refine (HNM.out _ (HT.out.below HB5.out)).mono ?_
    rintro e W6 ⟨rfl, b6⟩
    have HB6 := Lib.hid (HB5.out.trans (b6.mono HB5.out.size))
    obtain ⟨d0, d1, d2, d3, d4, _⟩ := cells5 ((b6.block _ (lt_of_block HC5.out)).trans HC5.out)
    clear b6
    go_wp2_with fail
    go_ret
    exact ⟨rfl, HB6.out⟩
  · obtain ⟨C, hC, hCk, hCr⟩ := cmdM_some (L := [b, 192] ++ M) (k := k) (by rw [hnth]; exact hk) (by rcases hcases with h | h | h | h | h | h | h | h <;> (injection h with h _; rw [h]; decide)) HL2
    have HC := Lib.hid hC
    have HNM : Hid (∀ W, Tbl W → Calls Tryd.prog 12 #[.int .u8 b] W fun e w' => e = .returned (.string s) ∧ Below W.heap.size W w') := Lib.hid (fun W h => by rw [← hs]; exact name_any h b)
    have HNK : Hid (∀ W, Tbl W → Calls Tryd.prog 12 #[.int .u8 k] W fun e w' => e = .returned (.string s) ∧ Below W.heap.size W w') := Lib.hid (fun W h => by rw [← hks]; exact name_any h k)
    obtain ⟨Ck, Cw, Co, Ce, Cf⟩ := C
    simp only at hCk
    subst hCk
    have HCR := Lib.hid hCr
    clear hk hs HL2 hnth hC hks hCr
    rcases hcases with h | h | h | h | h | h | h | h
    · injection h with h2 h3
      subst h2 h3
      go_enter Tryd.func6, Tryd.ntmps6
      go_wp2_with fail
      refine HAL.out.mono ?_
      rintro e W1 ⟨rfl, b1⟩
      have HB1 := Lib.hid b1
      have HM1 := Lib.hid ((HM.out.1.below b1).below (below_alloc W1 (.cells #[.int .u8 b, .int .u8 192] 5)))
      clear b1
      go_wp2_with (at_builtin; go_loud (refine append_row rfl _ _ rfl (new2_own W1 b 192) HM1.out HUC.out rfl rfl (by have := HN.out; simp; omega) (by rw [World.size_alloc]; omega) (w0 := W1) (below_alloc W1 _) ?_); intro v3 W3 hown hold _ _; have HOWN := Lib.hid hown; have HB3 := Lib.hid (HB1.out.trans (hold.mono HB1.out.size)); clear hown hold)
      have hp := cparse_any (HT.out.below HB3.out) v3 ([b, 192] ++ M) HOWN.out.cut HBY.out HLN.out
      rw [HC.out] at hp
      refine hp.mono ?_
      rintro e W4 ⟨V, rfl, hv, b4⟩
      have HB4 := Lib.hid (HB3.out.trans (b4.mono HB3.out.size))
      have HV4 := Lib.hid hv.r
      obtain ⟨za, zb, zc, zd, rfl⟩ := cmV_form hv
      clear hv b4 hp
      simp only at HV4 ⊢
      obtain ⟨zm, hzm⟩ : ∃ m, m = Co.length := ⟨_, rfl⟩
      obtain ⟨zk, hzk⟩ : ∃ m, m = Cf.length := ⟨_, rfl⟩
      rw [← hzm, ← hzk] at HV4 ⊢
      clear hzm hzk
      have HB5 := Lib.hid (HB4.out.trans ((below_alloc W4 (.cells #[.int .u8 241, .int .u8 Cw, .slice za zm zc, .int .i64 Ce, .slice zb zk zd] 28)).mono HB4.out.size))
      have HV5 := Lib.hid (HV4.out.below (below_alloc W4 (.cells #[.int .u8 241, .int .u8 Cw, .slice za zm zc, .int .i64 Ce, .slice zb zk zd] 28)))
      have hc5 := heap_alloc_new W4 (.cells #[.int .u8 241, .int .u8 Cw, .slice za zm zc, .int .i64 Ce, .slice zb zk zd] 28)
      obtain ⟨W5, hW5⟩ : ∃ W5, W5 = W4.alloc (.cells #[.int .u8 241, .int .u8 Cw, .slice za zm zc, .int .i64 Ce, .slice zb zk zd] 28) := ⟨_, rfl⟩
      obtain ⟨g, hg⟩ : ∃ g, g = W4.heap.size := ⟨_, rfl⟩
      rw [← hW5] at HB5 hc5 HV5
      rw [← hg] at hc5
      have HW5 := Lib.hid hW5.symm
      have HG := Lib.hid hg.symm
      have HC5 := Lib.hid hc5
      clear hW5 hg hc5
      go_upto_region 6 with fail
      rw [HW5.out, HG.out]
      go_wp2_with fail
      refine (HNM.out _ (HT.out.below HB5.out)).mono ?_
      rintro e W6 ⟨rfl, b6⟩
      have HB6 := Lib.hid (HB5.out.trans (b6.mono HB5.out.size))
      have HV6 := Lib.hid (HV5.out.below b6)
      have HC6 := Lib.hid ((b6.block _ (lt_of_block HC5.out)).trans HC5.out)
      obtain ⟨d0, d1, d2, d3, d4, _⟩ := cells5 HC6.out
      clear b6
      go_wp2_with fail
      refine (HNK.out _ (HT.out.below HB6.out)).mono ?_
      rintro e W7 ⟨rfl, b7⟩
      have HB7 := Lib.hid (HB6.out.trans (b7.mono HB6.out.size))
      have HV7 := Lib.hid (HV6.out.below b7)
      obtain ⟨e0, e1, e2, e3, e4, _⟩ := cells5 ((b7.block _ (lt_of_block HC6.out)).trans HC6.out)
      clear b7 d0 d1 d2 d3 d4
      go_wp2_with fail
      go_ret
      exact ⟨rfl, HB7.out⟩
    · injection h with h2 h3
      subst h2 h3
      go_enter Tryd.func6, Tryd.ntmps6
      go_wp2_with fail
      refine HAL.out.mono ?_
      rintro e W1 ⟨rfl, b1⟩
      have HB1 := Lib.hid b1
      have HM1 := Lib.hid ((HM.out.1.below b1).below (below_alloc W1 (.cells #[.int .u8 b, .int .u8 192] 5)))
      clear b1
      go_wp2_with (at_builtin; go_loud (refine append_row rfl _ _ rfl (new2_own W1 b 192) HM1.out HUC.out rfl rfl (by have := HN.out; simp; omega) (by rw [World.size_alloc]; omega) (w0 := W1) (below_alloc W1 _) ?_); intro v3 W3 hown hold _ _; have HOWN := Lib.hid hown; have HB3 := Lib.hid (HB1.out.trans (hold.mono HB1.out.size)); clear hown hold)
      have hp := cparse_any (HT.out.below HB3.out) v3 ([b, 192] ++ M) HOWN.out.cut HBY.out HLN.out
      rw [HC.out] at hp
      refine hp.mono ?_
      rintro e W4 ⟨V, rfl, hv, b4⟩
      have HB4 := Lib.hid (HB3.out.trans (b4.mono HB3.out.size))
      have HV4 := Lib.hid hv.r
      obtain ⟨za, zb, zc, zd, rfl⟩ := cmV_form hv
      clear hv b4 hp
      simp only at HV4 ⊢
      obtain ⟨zm, hzm⟩ : ∃ m, m = Co.length := ⟨_, rfl⟩
      obtain ⟨zk, hzk⟩ : ∃ m, m = Cf.length := ⟨_, rfl⟩
      rw [← hzm, ← hzk] at HV4 ⊢
      clear hzm hzk
      have HB5 := Lib.hid (HB4.out.trans ((below_alloc W4 (.cells #[.int .u8 245, .int .u8 Cw, .slice za zm zc, .int .i64 Ce, .slice zb zk zd] 28)).mono HB4.out.size))
      have HV5 := Lib.hid (HV4.out.below (below_alloc W4 (.cells #[.int .u8 245, .int .u8 Cw, .slice za zm zc, .int .i64 Ce, .slice zb zk zd] 28)))
      have hc5 := heap_alloc_new W4 (.cells #[.int .u8 245, .int .u8 Cw, .slice za zm zc, .int .i64 Ce, .slice zb zk zd] 28)
      obtain ⟨W5, hW5⟩ : ∃ W5, W5 = W4.alloc (.cells #[.int .u8 245, .int .u8 Cw, .slice za zm zc, .int .i64 Ce, .slice zb zk zd] 28) := ⟨_, rfl⟩
      obtain ⟨g, hg⟩ : ∃ g, g = W4.heap.size := ⟨_, rfl⟩
      rw [← hW5] at HB5 hc5 HV5
      rw [← hg] at hc5
      have HW5 := Lib.hid hW5.symm
      have HG := Lib.hid hg.symm
      have HC5 := Lib.hid hc5
      clear hW5 hg hc5
      go_upto_region 6 with fail
      rw [HW5.out, HG.out]
      go_wp2_with fail
      refine (HNM.out _ (HT.out.below HB5.out)).mono ?_
      rintro e W6 ⟨rfl, b6⟩
      have HB6 := Lib.hid (HB5.out.trans (b6.mono HB5.out.size))
      have HV6 := Lib.hid (HV5.out.below b6)
      have HC6 := Lib.hid ((b6.block _ (lt_of_block HC5.out)).trans HC5.out)
      obtain ⟨d0, d1, d2, d3, d4, _⟩ := cells5 HC6.out
      clear b6
      go_wp2_with fail
      refine (HNK.out _ (HT.out.below HB6.out)).mono ?_
      rintro e W7 ⟨rfl, b7⟩
      have HB7 := Lib.hid (HB6.out.trans (b7.mono HB6.out.size))
      have HV7 := Lib.hid (HV6.out.below b7)
      obtain ⟨e0, e1, e2, e3, e4, _⟩ := cells5 ((b7.block _ (lt_of_block HC6.out)).trans HC6.out)
      clear b7 d0 d1 d2 d3 d4
      go_wp2_with fail
      go_ret
      exact ⟨rfl, HB7.out⟩
    · injection h with h2 h3
      subst h2 h3
      go_enter Tryd.func6, Tryd.ntmps6
      go_wp2_with fail
      refine HAL.out.mono ?_
      rintro e W1 ⟨rfl, b1⟩
      have HB1 := Lib.hid b1
      have HM1 := Lib.hid ((HM.out.1.below b1).below (below_alloc W1 (.cells #[.int .u8 b, .int .u8 192] 5)))
      clear b1
      go_wp2_with (at_builtin; go_loud (refine append_row rfl _ _ rfl (new2_own W1 b 192) HM1.out HUC.out rfl rfl (by have := HN.out; simp; omega) (by rw [World.size_alloc]; omega) (w0 := W1) (below_alloc W1 _) ?_); intro v3 W3 hown hold _ _; have HOWN := Lib.hid hown; have HB3 := Lib.hid (HB1.out.trans (hold.mono HB1.out.size)); clear hown hold)
      have hp := cparse_any (HT.out.below HB3.out) v3 ([b, 192] ++ M) HOWN.out.cut HBY.out HLN.out
      rw [HC.out] at hp
      refine hp.mono ?_
      rintro e W4 ⟨V, rfl, hv, b4⟩
      have HB4 := Lib.hid (HB3.out.trans (b4.mono HB3.out.size))
      have HV4 := Lib.hid hv.r
      obtain ⟨za, zb, zc, zd, rfl⟩ := cmV_form hv
      clear hv b4 hp
      simp only at HV4 ⊢
      obtain ⟨zm, hzm⟩ : ∃ m, m = Co.length := ⟨_, rfl⟩
      obtain ⟨zk, hzk⟩ : ∃ m, m = Cf.length := ⟨_, rfl⟩
      rw [← hzm, ← hzk] at HV4 ⊢
      clear hzm hzk
      have HB5 := Lib.hid (HB4.out.trans ((below_alloc W4 (.cells #[.int .u8 126, .int .u8 Cw, .slice za zm zc, .int .i64 Ce, .slice zb zk zd] 28)).mono HB4.out.size))
      have HV5 := Lib.hid (HV4.out.below (below_alloc W4 (.cells #[.int .u8 126, .int .u8 Cw, .slice za zm zc, .int .i64 Ce, .slice zb zk zd] 28)))
      have hc5 := heap_alloc_new W4 (.cells #[.int .u8 126, .int .u8 Cw, .slice za zm zc, .int .i64 Ce, .slice zb zk zd] 28)
      obtain ⟨W5, hW5⟩ : ∃ W5, W5 = W4.alloc (.cells #[.int .u8 126, .int .u8 Cw, .slice za zm zc, .int .i64 Ce, .slice zb zk zd] 28) := ⟨_, rfl⟩
      obtain ⟨g, hg⟩ : ∃ g, g = W4.heap.size := ⟨_, rfl⟩
      rw [← hW5] at HB5 hc5 HV5
      rw [← hg] at hc5
      have HW5 := Lib.hid hW5.symm
      have HG := Lib.hid hg.symm
      have HC5 := Lib.hid hc5
      clear hW5 hg hc5
      go_upto_region 6 with fail
      rw [HW5.out, HG.out]
      go_wp2_with fail
      refine (HNM.out _ (HT.out.below HB5.out)).mono ?_
      rintro e W6 ⟨rfl, b6⟩
      have HB6 := Lib.hid (HB5.out.trans (b6.mono HB5.out.size))
      have HV6 := Lib.hid (HV5.out.below b6)
      have HC6 := Lib.hid ((b6.block _ (lt_of_block HC5.out)).trans HC5.out)
      obtain ⟨d0, d1, d2, d3, d4, _⟩ := cells5 HC6.out
      clear b6
      go_wp2_with fail
      refine (HNK.out _ (HT.out.below HB6.out)).mono ?_
      rintro e W7 ⟨rfl, b7⟩
      have HB7 := Lib.hid (HB6.out.trans (b7.mono HB6.out.size))
      have HV7 := Lib.hid (HV6.out.below b7)
      obtain ⟨e0, e1, e2, e3, e4, _⟩ := cells5 ((b7.block _ (lt_of_block HC6.out)).trans HC6.out)
      clear b7 d0 d1 d2 d3 d4
      go_wp2_with fail
      go_ret
      exact ⟨rfl, HB7.out⟩
    · injection h with h2 h3
      subst h2 h3
      go_enter Tryd.func6, Tryd.ntmps6
      go_wp2_with fail
      refine HAL.out.mono ?_
      rintro e W1 ⟨rfl, b1⟩
      have HB1 := Lib.hid b1
      have HM1 := Lib.hid ((HM.out.1.below b1).below (below_alloc W1 (.cells #[.int .u8 b, .int .u8 192] 5)))
      clear b1
      go_wp2_with (at_builtin; go_loud (refine append_row rfl _ _ rfl (new2_own W1 b 192) HM1.out HUC.out rfl rfl (by have := HN.out; simp; omega) (by rw [World.size_alloc]; omega) (w0 := W1) (below_alloc W1 _) ?_); intro v3 W3 hown hold _ _; have HOWN := Lib.hid hown; have HB3 := Lib.hid (HB1.out.trans (hold.mono HB1.out.size)); clear hown hold)
      have hp := cparse_any (HT.out.below HB3.out) v3 ([b, 192] ++ M) HOWN.out.cut HBY.out HLN.out
      rw [HC.out] at hp
      refine hp.mono ?_
      rintro e W4 ⟨V, rfl, hv, b4⟩
      have HB4 := Lib.hid (HB3.out.trans (b4.mono HB3.out.size))
      have HV4 := Lib.hid hv.r
      obtain ⟨za, zb, zc, zd, rfl⟩ := cmV_form hv
      clear hv b4 hp
      simp only at HV4 ⊢
      obtain ⟨zm, hzm⟩ : ∃ m, m = Co.length := ⟨_, rfl⟩
      obtain ⟨zk, hzk⟩ : ∃ m, m = Cf.length := ⟨_, rfl⟩
      rw [← hzm, ← hzk] at HV4 ⊢
      clear hzm hzk
      have HB5 := Lib.hid (HB4.out.trans ((below_alloc W4 (.cells #[.int .u8 111, .int .u8 Cw, .slice za zm zc, .int .i64 Ce, .slice zb zk zd] 28)).mono HB4.out.size))
      have HV5 := Lib.hid (HV4.out.below (below_alloc W4 (.cells #[.int .u8 111, .int .u8 Cw, .slice za zm zc, .int .i64 Ce, .slice zb zk zd] 28)))
      have hc5 := heap_alloc_new W4 (.cells #[.int .u8 111, .int .u8 Cw, .slice za zm zc, .int .i64 Ce, .slice zb zk zd] 28)
      obtain ⟨W5, hW5⟩ : ∃ W5, W5 = W4.alloc (.cells #[.int .u8 111, .int .u8 Cw, .slice za zm zc, .int .i64 Ce, .slice zb zk zd] 28) := ⟨_, rfl⟩
      obtain ⟨g, hg⟩ : ∃ g, g = W4.heap.size := ⟨_, rfl⟩
      rw [← hW5] at HB5 hc5 HV5
      rw [← hg] at hc5
      have HW5 := Lib.hid hW5.symm
      have HG := Lib.hid hg.symm
      have HC5 := Lib.hid hc5
      clear hW5 hg hc5
      go_upto_region 6 with fail
      rw [HW5.out, HG.out]
      go_wp2_with fail
      refine (HNM.out _ (HT.out.below HB5.out)).mono ?_
      rintro e W6 ⟨rfl, b6⟩
      have HB6 := Lib.hid (HB5.out.trans (b6.mono HB5.out.size))
      have HV6 := Lib.hid (HV5.out.below b6)
      have HC6 := Lib.hid ((b6.block _ (lt_of_block HC5.out)).trans HC5.out)
      obtain ⟨d0, d1, d2, d3, d4, _⟩ := cells5 HC6.out
      clear b6
      go_wp2_with fail
      refine (HNK.out _ (HT.out.below HB6.out)).mono ?_
      rintro e W7 ⟨rfl, b7⟩
      have HB7 := Lib.hid (HB6.out.trans (b7.mono HB6.out.size))
      have HV7 := Lib.hid (HV6.out.below b7)
      obtain ⟨e0, e1, e2, e3, e4, _⟩ := cells5 ((b7.block _ (lt_of_block HC6.out)).trans HC6.out)
      clear b7 d0 d1 d2 d3 d4
      go_wp2_with fail
      have hcr := HCR.out rfl (by decide)
      injection hcr with _ r1 r2 r3 r4
      refine (same_quiet HV7.out (⟨_, _, rfl, OrdsOwn.at2 (OrdsOwn.nil 0 W7), FlsOwn.at (FlsOwn.nil 0 W7)⟩ : CmR W7 ⟨111, 0, [], 0, []⟩ (.agg #[.int .u8 111, .int .u8 0, .slice none 0 0, .int .i64 0, .slice none 0 0])) ⟨by (rw [r2]; simp), fun o ho => by (rw [r2] at ho; simp at ho)⟩ ⟨by decide, fun o ho => by simp at ho⟩ (.inr r4)).mono ?_
      rintro e W8 ⟨rfl, b8⟩
      have HB8 := Lib.hid (HB7.out.trans (b8.mono HB7.out.size))
      have hal : alikeK ⟨111, Cw, Co, Ce, Cf⟩ ⟨111, 0, [], 0, []⟩ = true := by rw [r1, r2, r3, r4]; decide
      rw [hal]
      clear b8
      go_wp2_with fail
      go_ret
      exact ⟨rfl, HB8.out⟩
    · injection h with h2 h3
      subst h2 h3
      go_enter Tryd.func6, Tryd.ntmps6
      go_wp2_with fail
      refine HAL.out.mono ?_
      rintro e W1 ⟨rfl, b1⟩
      have HB1 := Lib.hid b1
      have HM1 := Lib.hid ((HM.out.1.below b1).below (below_alloc W1 (.cells #[.int .u8 b, .int .u8 192] 5)))
      clear b1
      go_wp2_with (at_builtin; go_loud (refine append_row rfl _ _ rfl (new2_own W1 b 192) HM1.out HUC.out rfl rfl (by have := HN.out; simp; omega) (by rw [World.size_alloc]; omega) (w0 := W1) (below_alloc W1 _) ?_); intro v3 W3 hown hold _ _; have HOWN := Lib.hid hown; have HB3 := Lib.hid (HB1.out.trans (hold.mono HB1.out.size)); clear hown hold)
      have hp := cparse_any (HT.out.below HB3.out) v3 ([b, 192] ++ M) HOWN.out.cut HBY.out HLN.out
      rw [HC.out] at hp
      refine hp.mono ?_
      rintro e W4 ⟨V, rfl, hv, b4⟩
      have HB4 := Lib.hid (HB3.out.trans (b4.mono HB3.out.size))
      have HV4 := Lib.hid hv.r
      obtain ⟨za, zb, zc, zd, rfl⟩ := cmV_form hv
      clear hv b4 hp
      simp only at HV4 ⊢
      obtain ⟨zm, hzm⟩ : ∃ m, m = Co.length := ⟨_, rfl⟩
      obtain ⟨zk, hzk⟩ : ∃ m, m = Cf.length := ⟨_, rfl⟩
      rw [← hzm, ← hzk] at HV4 ⊢
      clear hzm hzk
      have HB5 := Lib.hid (HB4.out.trans ((below_alloc W4 (.cells #[.int .u8 242, .int .u8 Cw, .slice za zm zc, .int .i64 Ce, .slice zb zk zd] 28)).mono HB4.out.size))
      have HV5 := Lib.hid (HV4.out.below (below_alloc W4 (.cells #[.int .u8 242, .int .u8 Cw, .slice za zm zc, .int .i64 Ce, .slice zb zk zd] 28)))
      have hc5 := heap_alloc_new W4 (.cells #[.int .u8 242, .int .u8 Cw, .slice za zm zc, .int .i64 Ce, .slice zb zk zd] 28)
      obtain ⟨W5, hW5⟩ : ∃ W5, W5 = W4.alloc (.cells #[.int .u8 242, .int .u8 Cw, .slice za zm zc, .int .i64 Ce, .slice zb zk zd] 28) := ⟨_, rfl⟩
      obtain ⟨g, hg⟩ : ∃ g, g = W4.heap.size := ⟨_, rfl⟩
      rw [← hW5] at HB5 hc5 HV5
      rw [← hg] at hc5
      have HW5 := Lib.hid hW5.symm
      have HG := Lib.hid hg.symm
      have HC5 := Lib.hid hc5
      clear hW5 hg hc5
      go_upto_region 6 with fail
      rw [HW5.out, HG.out]
      go_wp2_with fail
      refine (HNM.out _ (HT.out.below HB5.out)).mono ?_
      rintro e W6 ⟨rfl, b6⟩
      have HB6 := Lib.hid (HB5.out.trans (b6.mono HB5.out.size))
      have HV6 := Lib.hid (HV5.out.below b6)
      have HC6 := Lib.hid ((b6.block _ (lt_of_block HC5.out)).trans HC5.out)
      obtain ⟨d0, d1, d2, d3, d4, _⟩ := cells5 HC6.out
      clear b6
      go_wp2_with fail
      refine (HNK.out _ (HT.out.below HB6.out)).mono ?_
      rintro e W7 ⟨rfl, b7⟩
      have HB7 := Lib.hid (HB6.out.trans (b7.mono HB6.out.size))
      have HV7 := Lib.hid (HV6.out.below b7)
      obtain ⟨e0, e1, e2, e3, e4, _⟩ := cells5 ((b7.block _ (lt_of_block HC6.out)).trans HC6.out)
      clear b7 d0 d1 d2 d3 d4
      go_wp2_with fail
      have hcr := HCR.out rfl (by decide)
      injection hcr with _ r1 r2 r3 r4
      refine (same_quiet HV7.out (⟨_, _, rfl, OrdsOwn.at2 (OrdsOwn.nil 0 W7), FlsOwn.at (FlsOwn.nil 0 W7)⟩ : CmR W7 ⟨242, 0, [], 0, []⟩ (.agg #[.int .u8 242, .int .u8 0, .slice none 0 0, .int .i64 0, .slice none 0 0])) ⟨by (rw [r2]; simp), fun o ho => by (rw [r2] at ho; simp at ho)⟩ ⟨by decide, fun o ho => by simp at ho⟩ (.inr r4)).mono ?_
      rintro e W8 ⟨rfl, b8⟩
      have HB8 := Lib.hid (HB7.out.trans (b8.mono HB7.out.size))
      have hal : alikeK ⟨242, Cw, Co, Ce, Cf⟩ ⟨242, 0, [], 0, []⟩ = true := by rw [r1, r2, r3, r4]; decide
      rw [hal]
      clear b8
      go_wp2_with fail
      go_ret
      exact ⟨rfl, HB8.out⟩
    · injection h with h2 h3
      subst h2 h3
      go_enter Tryd.func6, Tryd.ntmps6
      go_wp2_with fail
      refine HAL.out.mono ?_
      rintro e W1 ⟨rfl, b1⟩
      have HB1 := Lib.hid b1
      have HM1 := Lib.hid ((HM.out.1.below b1).below (below_alloc W1 (.cells #[.int .u8 b, .int .u8 192] 5)))
      clear b1
      go_wp2_with (at_builtin; go_loud (refine append_row rfl _ _ rfl (new2_own W1 b 192) HM1.out HUC.out rfl rfl (by have := HN.out; simp; omega) (by rw [World.size_alloc]; omega) (w0 := W1) (below_alloc W1 _) ?_); intro v3 W3 hown hold _ _; have HOWN := Lib.hid hown; have HB3 := Lib.hid (HB1.out.trans (hold.mono HB1.out.size)); clear hown hold)
      have hp := cparse_any (HT.out.below HB3.out) v3 ([b, 192] ++ M) HOWN.out.cut HBY.out HLN.out
      rw [HC.out] at hp
      refine hp.mono ?_
      rintro e W4 ⟨V, rfl, hv, b4⟩
      have HB4 := Lib.hid (HB3.out.trans (b4.mono HB3.out.size))
      have HV4 := Lib.hid hv.r
      obtain ⟨za, zb, zc, zd, rfl⟩ := cmV_form hv
      clear hv b4 hp
      simp only at HV4 ⊢
      obtain ⟨zm, hzm⟩ : ∃ m, m = Co.length := ⟨_, rfl⟩
      obtain ⟨zk, hzk⟩ : ∃ m, m = Cf.length := ⟨_, rfl⟩
      rw [← hzm, ← hzk] at HV4 ⊢
      clear hzm hzk
      have HB5 := Lib.hid (HB4.out.trans ((below_alloc W4 (.cells #[.int .u8 246, .int .u8 Cw, .slice za zm zc, .int .i64 Ce, .slice zb zk zd] 28)).mono HB4.out.size))
      have HV5 := Lib.hid (HV4.out.below (below_alloc W4 (.cells #[.int .u8 246, .int .u8 Cw, .slice za zm zc, .int .i64 Ce, .slice zb zk zd] 28)))
      have hc5 := heap_alloc_new W4 (.cells #[.int .u8 246, .int .u8 Cw, .slice za zm zc, .int .i64 Ce, .slice zb zk zd] 28)
      obtain ⟨W5, hW5⟩ : ∃ W5, W5 = W4.alloc (.cells #[.int .u8 246, .int .u8 Cw, .slice za zm zc, .int .i64 Ce, .slice zb zk zd] 28) := ⟨_, rfl⟩
      obtain ⟨g, hg⟩ : ∃ g, g = W4.heap.size := ⟨_, rfl⟩
      rw [← hW5] at HB5 hc5 HV5
      rw [← hg] at hc5
      have HW5 := Lib.hid hW5.symm
      have HG := Lib.hid hg.symm
      have HC5 := Lib.hid hc5
      clear hW5 hg hc5
      go_upto_region 6 with fail
      rw [HW5.out, HG.out]
      go_wp2_with fail
      refine (HNM.out _ (HT.out.below HB5.out)).mono ?_
      rintro e W6 ⟨rfl, b6⟩
      have HB6 := Lib.hid (HB5.out.trans (b6.mono HB5.out.size))
      have HV6 := Lib.hid (HV5.out.below b6)
      have HC6 := Lib.hid ((b6.block _ (lt_of_block HC5.out)).trans HC5.out)
      obtain ⟨d0, d1, d2, d3, d4, _⟩ := cells5 HC6.out
      clear b6
      go_wp2_with fail
      refine (HNK.out _ (HT.out.below HB6.out)).mono ?_
      rintro e W7 ⟨rfl, b7⟩
      have HB7 := Lib.hid (HB6.out.trans (b7.mono HB6.out.size))
      have HV7 := Lib.hid (HV6.out.below b7)
      obtain ⟨e0, e1, e2, e3, e4, _⟩ := cells5 ((b7.block _ (lt_of_block HC6.out)).trans HC6.out)
      clear b7 d0 d1 d2 d3 d4
      go_wp2_with fail
      have hcr := HCR.out rfl (by decide)
      injection hcr with _ r1 r2 r3 r4
      refine (same_quiet HV7.out (⟨_, _, rfl, OrdsOwn.at2 (OrdsOwn.nil 0 W7), FlsOwn.at (FlsOwn.nil 0 W7)⟩ : CmR W7 ⟨246, 0, [], 0, []⟩ (.agg #[.int .u8 246, .int .u8 0, .slice none 0 0, .int .i64 0, .slice none 0 0])) ⟨by (rw [r2]; simp), fun o ho => by (rw [r2] at ho; simp at ho)⟩ ⟨by decide, fun o ho => by simp at ho⟩ (.inr r4)).mono ?_
      rintro e W8 ⟨rfl, b8⟩
      have HB8 := Lib.hid (HB7.out.trans (b8.mono HB7.out.size))
      have hal : alikeK ⟨246, Cw, Co, Ce, Cf⟩ ⟨246, 0, [], 0, []⟩ = true := by rw [r1, r2, r3, r4]; decide
      rw [hal]
      clear b8
      go_wp2_with fail
      go_ret
      exact ⟨rfl, HB8.out⟩
    · injection h with h2 h3
      subst h2 h3
      go_enter Tryd.func6, Tryd.ntmps6
      go_wp2_with fail
      refine HAL.out.mono ?_
      rintro e W1 ⟨rfl, b1⟩
      have HB1 := Lib.hid b1
      have HM1 := Lib.hid ((HM.out.1.below b1).below (below_alloc W1 (.cells #[.int .u8 b, .int .u8 192] 5)))
      clear b1
      go_wp2_with (at_builtin; go_loud (refine append_row rfl _ _ rfl (new2_own W1 b 192) HM1.out HUC.out rfl rfl (by have := HN.out; simp; omega) (by rw [World.size_alloc]; omega) (w0 := W1) (below_alloc W1 _) ?_); intro v3 W3 hown hold _ _; have HOWN := Lib.hid hown; have HB3 := Lib.hid (HB1.out.trans (hold.mono HB1.out.size)); clear hown hold)
      have hp := cparse_any (HT.out.below HB3.out) v3 ([b, 192] ++ M) HOWN.out.cut HBY.out HLN.out
      rw [HC.out] at hp
      refine hp.mono ?_
      rintro e W4 ⟨V, rfl, hv, b4⟩
      have HB4 := Lib.hid (HB3.out.trans (b4.mono HB3.out.size))
      have HV4 := Lib.hid hv.r
      obtain ⟨za, zb, zc, zd, rfl⟩ := cmV_form hv
      clear hv b4 hp
      simp only at HV4 ⊢
      obtain ⟨zm, hzm⟩ : ∃ m, m = Co.length := ⟨_, rfl⟩
      obtain ⟨zk, hzk⟩ : ∃ m, m = Cf.length := ⟨_, rfl⟩
      rw [← hzm, ← hzk] at HV4 ⊢
      clear hzm hzk
      have HB5 := Lib.hid (HB4.out.trans ((below_alloc W4 (.cells #[.int .u8 110, .int .u8 Cw, .slice za zm zc, .int .i64 Ce, .slice zb zk zd] 28)).mono HB4.out.size))
      have HV5 := Lib.hid (HV4.out.below (below_alloc W4 (.cells #[.int .u8 110, .int .u8 Cw, .slice za zm zc, .int .i64 Ce, .slice zb zk zd] 28)))
      have hc5 := heap_alloc_new W4 (.cells #[.int .u8 110, .int .u8 Cw, .slice za zm zc, .int .i64 Ce, .slice zb zk zd] 28)
      obtain ⟨W5, hW5⟩ : ∃ W5, W5 = W4.alloc (.cells #[.int .u8 110, .int .u8 Cw, .slice za zm zc, .int .i64 Ce, .slice zb zk zd] 28) := ⟨_, rfl⟩
      obtain ⟨g, hg⟩ : ∃ g, g = W4.heap.size := ⟨_, rfl⟩
      rw [← hW5] at HB5 hc5 HV5
      rw [← hg] at hc5
      have HW5 := Lib.hid hW5.symm
      have HG := Lib.hid hg.symm
      have HC5 := Lib.hid hc5
      clear hW5 hg hc5
      go_upto_region 6 with fail
      rw [HW5.out, HG.out]
      go_wp2_with fail
      refine (HNM.out _ (HT.out.below HB5.out)).mono ?_
      rintro e W6 ⟨rfl, b6⟩
      have HB6 := Lib.hid (HB5.out.trans (b6.mono HB5.out.size))
      have HV6 := Lib.hid (HV5.out.below b6)
      have HC6 := Lib.hid ((b6.block _ (lt_of_block HC5.out)).trans HC5.out)
      obtain ⟨d0, d1, d2, d3, d4, _⟩ := cells5 HC6.out
      clear b6
      go_wp2_with fail
      refine (HNK.out _ (HT.out.below HB6.out)).mono ?_
      rintro e W7 ⟨rfl, b7⟩
      have HB7 := Lib.hid (HB6.out.trans (b7.mono HB6.out.size))
      have HV7 := Lib.hid (HV6.out.below b7)
      obtain ⟨e0, e1, e2, e3, e4, _⟩ := cells5 ((b7.block _ (lt_of_block HC6.out)).trans HC6.out)
      clear b7 d0 d1 d2 d3 d4
      go_wp2_with fail
      have hcr := HCR.out rfl (by decide)
      injection hcr with _ r1 r2 r3 r4
      refine (same_quiet HV7.out (⟨_, _, rfl, OrdsOwn.at2 (OrdsOwn.nil 0 W7), FlsOwn.at (FlsOwn.nil 0 W7)⟩ : CmR W7 ⟨110, 0, [], 0, []⟩ (.agg #[.int .u8 110, .int .u8 0, .slice none 0 0, .int .i64 0, .slice none 0 0])) ⟨by (rw [r2]; simp), fun o ho => by (rw [r2] at ho; simp at ho)⟩ ⟨by decide, fun o ho => by simp at ho⟩ (.inr r4)).mono ?_
      rintro e W8 ⟨rfl, b8⟩
      have HB8 := Lib.hid (HB7.out.trans (b8.mono HB7.out.size))
      have hal : alikeK ⟨110, Cw, Co, Ce, Cf⟩ ⟨110, 0, [], 0, []⟩ = true := by rw [r1, r2, r3, r4]; decide
      rw [hal]
      clear b8
      go_wp2_with fail
      go_ret
      exact ⟨rfl, HB8.out⟩
    · injection h with h2 h3
      subst h2 h3
      go_enter Tryd.func6, Tryd.ntmps6
      go_wp2_with fail
      refine HAL.out.mono ?_
      rintro e W1 ⟨rfl, b1⟩
      have HB1 := Lib.hid b1
      have HM1 := Lib.hid ((HM.out.1.below b1).below (below_alloc W1 (.cells #[.int .u8 b, .int .u8 192] 5)))
      clear b1
      go_wp2_with (at_builtin; go_loud (refine append_row rfl _ _ rfl (new2_own W1 b 192) HM1.out HUC.out rfl rfl (by have := HN.out; simp; omega) (by rw [World.size_alloc]; omega) (w0 := W1) (below_alloc W1 _) ?_); intro v3 W3 hown hold _ _; have HOWN := Lib.hid hown; have HB3 := Lib.hid (HB1.out.trans (hold.mono HB1.out.size)); clear hown hold)
      have hp := cparse_any (HT.out.below HB3.out) v3 ([b, 192] ++ M) HOWN.out.cut HBY.out HLN.out
      rw [HC.out] at hp
      refine hp.mono ?_
      rintro e W4 ⟨V, rfl, hv, b4⟩
      have HB4 := Lib.hid (HB3.out.trans (b4.mono HB3.out.size))
      have HV4 := Lib.hid hv.r
      obtain ⟨za, zb, zc, zd, rfl⟩ := cmV_form hv
      clear hv b4 hp
      simp only at HV4 ⊢
      obtain ⟨zm, hzm⟩ : ∃ m, m = Co.length := ⟨_, rfl⟩
      obtain ⟨zk, hzk⟩ : ∃ m, m = Cf.length := ⟨_, rfl⟩
      rw [← hzm, ← hzk] at HV4 ⊢
      clear hzm hzk
      have HB5 := Lib.hid (HB4.out.trans ((below_alloc W4 (.cells #[.int .u8 243, .int .u8 Cw, .slice za zm zc, .int .i64 Ce, .slice zb zk zd] 28)).mono HB4.out.size))
      have HV5 := Lib.hid (HV4.out.below (below_alloc W4 (.cells #[.int .u8 243, .int .u8 Cw, .slice za zm zc, .int .i64 Ce, .slice zb zk zd] 28)))
      have hc5 := heap_alloc_new W4 (.cells #[.int .u8 243, .int .u8 Cw, .slice za zm zc, .int .i64 Ce, .slice zb zk zd] 28)
      obtain ⟨W5, hW5⟩ : ∃ W5, W5 = W4.alloc (.cells #[.int .u8 243, .int .u8 Cw, .slice za zm zc, .int .i64 Ce, .slice zb zk zd] 28) := ⟨_, rfl⟩
      obtain ⟨g, hg⟩ : ∃ g, g = W4.heap.size := ⟨_, rfl⟩
      rw [← hW5] at HB5 hc5 HV5
      rw [← hg] at hc5
      have HW5 := Lib.hid hW5.symm
      have HG := Lib.hid hg.symm
      have HC5 := Lib.hid hc5
      clear hW5 hg hc5
      go_upto_region 6 with fail
      rw [HW5.out, HG.out]
      go_wp2_with fail
      refine (HNM.out _ (HT.out.below HB5.out)).mono ?_
      rintro e W6 ⟨rfl, b6⟩
      have HB6 := Lib.hid (HB5.out.trans (b6.mono HB5.out.size))
      have HV6 := Lib.hid (HV5.out.below b6)
      have HC6 := Lib.hid ((b6.block _ (lt_of_block HC5.out)).trans HC5.out)
      obtain ⟨d0, d1, d2, d3, d4, _⟩ := cells5 HC6.out
      clear b6
      go_wp2_with fail
      refine (HNK.out _ (HT.out.below HB6.out)).mono ?_
      rintro e W7 ⟨rfl, b7⟩
      have HB7 := Lib.hid (HB6.out.trans (b7.mono HB6.out.size))
      have HV7 := Lib.hid (HV6.out.below b7)
      obtain ⟨e0, e1, e2, e3, e4, _⟩ := cells5 ((b7.block _ (lt_of_block HC6.out)).trans HC6.out)
      clear b7 d0 d1 d2 d3 d4
      go_wp2_with fail
      go_ret
      exact ⟨rfl, HB7.out⟩
end Go.Proofs.YtmmgebiojpnhcaaDoor.Cmd
