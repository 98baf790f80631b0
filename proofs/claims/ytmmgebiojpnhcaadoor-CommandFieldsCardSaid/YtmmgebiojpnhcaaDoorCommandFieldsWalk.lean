/-
  The walk of CommandFields.
-/
import Derived.Test.YtmmgebiojpnhcaaDoorCmdU
import Derived.Test.YtmmgebiojpnhcaaDoorCmdP
import Derived.Test.YtmmgebiojpnhcaaDoorOpenT
import Derived.Test.YtmmgebiojpnhcaaDoorOrdT
namespace Go.Proofs.YtmmgebiojpnhcaaDoor.Cmd
open Go.RowKit Base Go.Proofs.YtmmgebiojpnhcaaDoor.Ord
set_option linter.unusedVariables false
set_option linter.unusedSimpArgs false

theorem RowsT.below {w w' : World} {v : Value} {X : List (List Int)} (h : Open.RowsT w v X) (t : Below w.heap.size w w') : Open.RowsT w' v X := by
  obtain ⟨a, cap, rfl, hr⟩ := h
  refine ⟨a, cap, rfl, fun hne => ?_⟩
  obtain ⟨g, off, rfl, hg, hc⟩ := hr hne
  refine ⟨g, off, rfl, Nat.lt_of_lt_of_le hg t.size, fun i r hi => ?_⟩
  obtain ⟨u, hu, hru⟩ := hc i r hi
  exact ⟨u, (t.cell (p := ⟨g, _, none⟩) hg).trans hu, hru.below t⟩
def FldRel (w : World) (n : Nat) (va vw ve i : Value) (wr : World) : Prop :=
  ∃ k A Q E T, k ≤ n ∧ i = .int .i64 (k : Nat) ∧ ve = .int .i64 E ∧ FQ2 w.heap.size wr A va Q vw T ∧ GM A (Q.map (·.1)) E ∧ A.length ≤ k * 102 ∧ Q.length ≤ k ∧ (∀ x ∈ A, 0 ≤ x ∧ x < 256) ∧ Below w.heap.size w wr
theorem oneL_len (r : List Int) : (oneL r).length = r.length + 2 := by simp [oneL]
theorem oneL_by (r : List Int) (hl : r.length ≤ 100) (h : ∀ x ∈ r, 0 ≤ x ∧ x < 256) : ∀ x ∈ oneL r, 0 ≤ x ∧ x < 256 := by
  intro x hx
  unfold oneL at hx
  rcases List.mem_append.1 hx with hx | hx
  · simp at hx; omega
  · exact h x hx
theorem cmV_form2 {s : Nat} {w : World} {C : Cm} {V : Value} (h : CmV s w C V) : ∃ (a b : Option Addr) (c d : Nat), V = .agg #[.int .u8 C.kind, .int .u8 C.wcc, .slice a C.ords.length c, .int .i64 C.err, .slice b C.fields.length d] := by
  obtain ⟨vo, vf, P, Q, rfl, h1, h2, h3, h4⟩ := h
  obtain ⟨a, c, rfl⟩ := h1.form
  obtain ⟨b, d, rfl⟩ := h3.form
  exact ⟨a, b, c, d, by rw [← h2, ← h4, List.length_map, List.length_map]⟩
theorem ords_ok {L : List Int} (hL : ∀ x ∈ L, 0 ≤ x ∧ x < 256) (hm : L.length ≤ 1000000) : OsOk (ordsOf L) := by
  obtain ⟨⟨os, n, g⟩, hT⟩ : ∃ T, T = parseL (L.drop 2) ((L.drop 2).length + 1) 0 := ⟨_, rfl⟩
  obtain ⟨h1, h2, h3, h4⟩ := parse_small (L.drop 2) (fun x hx => hL x (List.mem_of_mem_drop hx)) (by rw [List.length_drop]; omega) os n g hT.symm
  unfold ordsOf
  rw [← hT]
  rw [List.length_drop] at h2
  exact ⟨by show os.length ≤ 1000000; omega, h4⟩
theorem oneM_ok {L : List Int} (hL : ∀ x ∈ L, 0 ≤ x ∧ x < 256) (hm : L.length ≤ 1000000) : OsOk (oneM L).1.ords := by
  have h0 : OsOk [] := ⟨by simp, fun o ho => by simp at ho⟩
  unfold oneM
  repeat' split
  all_goals first
    | exact ords_ok hL hm
    | exact h0
theorem fieldM_ok {L : List Int} {f : Fl} (hL : ∀ x ∈ L, 0 ≤ x ∧ x < 256) (hm : L.length ≤ 1000000) (h : fieldM L = some f) : OsOk f.ords := by
  have h0 : OsOk [] := ⟨by simp, fun o ho => by simp at ho⟩
  have key : OsOk (oneM (L.drop 2)).1.ords := oneM_ok (fun x hx => hL x (List.mem_of_mem_drop hx)) (by rw [List.length_drop]; omega)
  unfold fieldM at h
  repeat' split at h
  all_goals first
    | (cases h; done)
    | (injection h with h; subst h; first | exact key | exact h0)
theorem fieldsM_ok : ∀ (f : Nat) (L : List Int), (∀ x ∈ L, 0 ≤ x ∧ x < 256) → L.length ≤ 1000000 → (∀ q ∈ (fieldsM f L).1, OsOk q.ords) ∧ (fieldsM f L).1.length ≤ L.length
  | 0, L, _, _ => ⟨fun q hq => by simp [fieldsM] at hq, by simp [fieldsM]⟩
  | f + 1, L, hL, hm => by
    unfold fieldsM
    by_cases hLn : L = []
    · rw [if_pos hLn]; exact ⟨fun q hq => by simp at hq, by simp⟩
    · rw [if_neg hLn]
      cases hc : cutM L with
      | none => exact ⟨fun q hq => by simp at hq, by simp⟩
      | some p =>
        obtain ⟨A, B⟩ := p
        obtain ⟨_, h1, h2, h3, h4⟩ := cutM_some hc
        simp only at h1 h2 h3 h4 ⊢
        cases hf : fieldM A with
        | none => exact ⟨fun q hq => by simp at hq, by simp⟩
        | some x =>
          obtain ⟨k1, k2⟩ := fieldsM_ok f B (fun y hy => hL y (h4 y hy)) (by omega)
          simp only
          refine ⟨fun q hq => ?_, by simp; omega⟩
          rcases List.mem_cons.1 hq with rfl | hq
          · exact fieldM_ok (fun y hy => hL y (h3 y hy)) (by omega) hf
          · exact k1 q hq
theorem FM_ok {A : List Int} {W : List Fl} {E : Int} (hA : ∀ x ∈ A, 0 ≤ x ∧ x < 256) (hm : A.length ≤ 1000000) (h : FM A = (W, E)) (k e : Int) : CmOk ⟨k, 0, [], e, W⟩ := by
  obtain ⟨h1, h2⟩ := fieldsM_ok (A.length + 1) A hA hm
  unfold FM at h
  rw [h] at h1 h2
  exact ⟨⟨by simp, fun o ho => by simp at ho⟩, h1, by have h3 : W.length ≤ A.length := h2; show W.length ≤ 1000000; omega⟩
theorem empty_fls (W : World) : (W.alloc (.cells #[] 39)).ownsRow W.heap.size 39 7 (.slice (some ⟨W.heap.size, 0, none⟩) 0 0) 0 [] :=
  ⟨rfl, .inr ⟨W.heap.size, 0, #[], rfl, Nat.le_refl _, heap_alloc_new W _, Nat.le_refl _, by simp [maxLen], rfl, rfl⟩⟩
set_option maxRecDepth 100000 in
set_option maxHeartbeats 8000000 in
theorem commandFields_law {w : World} (ht : Tbl w) (v : Value) (X : List (List Int)) (hX : Open.RowsT w v X ∧ X.length ≤ maxLen ∧ ∀ r ∈ X, r.length ≤ maxLen ∧ ∀ n ∈ r, Open.Byte n) : Calls Tryd.prog 5 #[v] w fun e W' => e = .returned (.bool true) ∧ Below w.heap.size w W' := by
  obtain ⟨hX, _, hXb⟩ := hX
  obtain ⟨a, c, rfl⟩ : ∃ a c, v = .slice a X.length c := by obtain ⟨a, c, e, _⟩ := hX; exact ⟨a, c, e⟩
  have HXB : Hid (∀ r ∈ X, ∀ x ∈ r, 0 ≤ x ∧ x < 256) := Lib.hid (fun r hr x hx => by have := (hXb r hr).2 x hx; unfold Open.Byte at this; omega)
  have HAL := Lib.hid (cmd_alive ht)
  have HT := Lib.hid ht
  have HX := Lib.hid hX
  obtain ⟨n, hn⟩ : ∃ n, n = X.length := ⟨_, rfl⟩
  rw [← hn] at HX ⊢
  have HN := Lib.hid hn
  clear hX hXb ht hn
  by_cases hl : 20 < n
  · have t1 : (20 : Int) < (n : Int) := by omega
    go_enter Tryd.func5, Tryd.ntmps5
    go_wp2_with fail
    refine HAL.out.mono ?_
    rintro e W1 ⟨rfl, b1⟩
    have HB1 := Lib.hid b1
    clear b1
    go_wp2_with fail
    go_ret
    exact ⟨rfl, HB1.out⟩
  have t1 : ¬ (20 : Int) < (n : Int) := by omega
  have hn20 : n ≤ 20 := by omega
  go_enter Tryd.func5, Tryd.ntmps5
  go_wp2_with fail
  refine HAL.out.mono ?_
  rintro e W1 ⟨rfl, b1⟩
  have b2 := below_alloc W1 (.cells #[.int .u8 243] 5)
  have o2 := new1_own W1 243
  have b3 := below_alloc (W1.alloc (.cells #[.int .u8 243] 5)) (.cells #[] 39)
  have r3 := empty_fls (W1.alloc (.cells #[.int .u8 243] 5))
  have b23 := b2.trans (b3.mono b2.size)
  have HQ := Lib.hid (show FQ2 w.heap.size ((W1.alloc (.cells #[.int .u8 243] 5)).alloc (.cells #[] 39)) [] (.slice (some ⟨W1.heap.size, 0, none⟩) 1 1) [] (.slice (some ⟨(W1.alloc (.cells #[.int .u8 243] 5)).heap.size, 0, none⟩) 0 0) (fun _ => False) from
    ⟨((o2.below b3).lower b1.size), ownsRow_base r3 (Nat.le_trans b1.size b2.size), fun q hq => by simp at hq, fun k hk => hk.elim, fun _ _ hk => hk, fun _ _ hk => hk⟩)
  have HB3 := Lib.hid (b1.trans (b23.mono b1.size))
  have hsz : (W1.alloc (.cells #[.int .u8 243] 5)).heap.size = W1.heap.size + 1 := World.size_alloc _ _
  rw [hsz] at HQ
  clear b1 b2 o2 b3 r3 b23 hsz
  go_wp2_with fail
  go_loopw [3, 4, 5, 23] (fun va vw ve i wr => FldRel w n va vw ve i wr) (fun _ _ _ i _ => n - (intOf i).toNat)
  case atStart => exact ⟨0, [], [], 0, _, by omega, rfl, rfl, HQ.out, GM.nil, by simp, by simp, by simp, HB3.out⟩
  case round =>
    obtain ⟨k, A, Q, E, T, hk, rfl, rfl, hq, hgm, hla, hlq, hby, hold⟩ := hrel
    obtain ⟨aa, ac, rfl⟩ := hq.all.slice
    obtain ⟨wa, wc, rfl⟩ := hq.form
    obtain ⟨qn, hqn⟩ : ∃ m, m = Q.length := ⟨_, rfl⟩
    obtain ⟨an, han⟩ : ∃ m, m = ([243] ++ A).length := ⟨_, rfl⟩
    rw [← hqn, ← han] at hq ⊢
    have HQR := Lib.hid hq
    have HG := Lib.hid hgm
    have HLA := Lib.hid hla
    have HLQ := Lib.hid hlq
    have HBY := Lib.hid hby
    have HOL := Lib.hid hold
    have HQN := Lib.hid hqn
    have HAN := Lib.hid han
    clear hq hgm hla hlq hby hold hqn han HQ HB3
    by_cases hkn : k < n
    · have hkni : (k : Int) < (n : Int) := by omega
      have hk0 : (0 : Int) ≤ (k : Int) := Int.natCast_nonneg _
      obtain ⟨r, hr⟩ : ∃ r, X[k]? = some r := ⟨_, List.getElem?_eq_getElem (by rw [← HN.out]; exact hkn)⟩
      obtain ⟨_, _, e1, hrows⟩ := RowsT.below HX.out HOL.out
      injection e1 with e1 ea eb
      subst e1 eb
      clear ea
      obtain ⟨g, off, rfl, _, hc⟩ := hrows (by intro e; rw [e] at hr; simp at hr)
      obtain ⟨u, d0, hu⟩ := hc k r hr
      obtain ⟨ua, uc, rfl⟩ : ∃ a c, u = .slice a r.length c := by obtain ⟨_, a, c, e, _⟩ := hu; exact ⟨a, c, e⟩
      have HRB := Lib.hid (HXB.out r (List.mem_of_getElem? hr))
      have HUC : Hid (∀ x y, (Value.slice ua r.length uc) = .slice none x y → y = 0) := Lib.hid (fun x y he => by
        obtain ⟨_, _, _, h3, _, h5⟩ := hu
        injection h3 with h6 _ h7
        injection he with h8 _ h9
        subst h7
        rw [← h9]
        exact h5 (by rw [← h6]; exact h8))
      obtain ⟨m, hm⟩ : ∃ m, m = r.length := ⟨_, rfl⟩
      rw [← hm] at d0 hu HUC
      have HU := Lib.hid hu
      have HM := Lib.hid hm
      clear hr hrows hc hu hm
      by_cases hm100 : 100 < m
      · have t2 : (100 : Int) < (m : Int) := by omega
        go_wp2_with fail
        go_ret
        exact ⟨rfl, HOL.out⟩
      · have t2 : ¬ (100 : Int) < (m : Int) := by omega
        have hm1 : m ≤ 100 := by omega
        have hm0 : (0 : Int) ≤ (m : Int) := Int.natCast_nonneg _
        have w8 : IntKind.u8.wrap ((m : Int) + 2) = (m : Int) + 2 := by unfold IntKind.wrap; simp [IntKind.bits, IntKind.signed]; omega
        have hdv : ((m : Int) + 2) / 256 = 0 := by omega
        have HONE : Hid ([0, (m : Int) + 2] ++ r = oneL r) := Lib.hid (by unfold oneL; rw [HM.out])
        have HAB : Hid ((∀ g, (Value.slice aa an ac).ownBlock = some g → g < wr.heap.size) ∧ (∀ g, (Value.slice wa qn wc).ownBlock = some g → g < wr.heap.size)) := Lib.hid ⟨fun g hg => (World.ownsRow.lt HQR.out.all g hg).2, fun g hg => (World.ownsRow.lt HQR.out.row g hg).2⟩
        have HUR := Lib.hid (HU.out.1.below (below_alloc wr (.cells #[.int .u8 0, .int .u8 ((m : Int) + 2)] 5)))
        go_upto_region 14 with fail
        clear d0
        go_upto_region 15 with (at_builtin; go_loud (refine append_row rfl _ _ rfl (new2_own wr 0 ((m : Int) + 2)) HUR.out HUC.out rfl rfl (by have := HM.out; simp; omega) (by rw [World.size_alloc]; omega) (w0 := wr) (below_alloc wr _) ?_); intro v14 W14 hown hold _ _; have HO14 := Lib.hid hown; have HB14 := Lib.hid hold; clear hown hold)
        have ho14 := HO14.out
        rw [HONE.out] at ho14
        have hl14 := ho14.slice
        obtain ⟨xa, xc, rfl⟩ := ho14.slice
        have HXC : Hid (∀ x y, (Value.slice xa (oneL r).length xc) = .slice none x y → y = 0) := Lib.hid (fun x y he => by
          obtain ⟨_, _, _, h3, _, h5⟩ := ho14.cut
          injection h3 with h6 _ h7
          injection he with h8 _ h9
          subst h7
          rw [← h9]
          exact h5 (by rw [← h6]; exact h8))
        obtain ⟨on, hon⟩ : ∃ on, on = (oneL r).length := ⟨_, rfl⟩
        rw [← hon] at ho14 HXC
        rw [← hon]
        have HOW := Lib.hid ho14
        have HON : Hid (on ≤ 102 ∧ on = r.length + 2) := Lib.hid (by have := oneL_len r; have := HM.out; omega)
        have HON2 := Lib.hid hon
        have HOR := Lib.hid (ho14.row.below (below_alloc W14 (.cells #[.int .u8 243] 5)))
        clear ho14 hl14 HO14 HUR hon
        go_wp2_with (at_builtin; go_loud (refine append_row rfl _ _ rfl (new1_own W14 243) HOR.out HXC.out rfl rfl (by have := HON.out; have := HON2.out; simp; omega) (by rw [World.size_alloc]; omega) (w0 := W14) (below_alloc W14 _) ?_); intro v16 W16 hown hold _ _; have HO16 := Lib.hid hown; have HB16 := Lib.hid (HB14.out.trans (hold.mono HB14.out.size)); have HW16 := Lib.hid hold; clear hown hold)
        have hp := cparse_any ((HT.out.below HOL.out).below HB16.out) v16 ([243] ++ oneL r) HO16.out.cut (fun x hx => by
          rcases List.mem_append.1 hx with hx | hx
          · obtain rfl : x = 243 := by simpa using hx
            omega
          · exact oneL_by r (by have := HM.out; omega) HRB.out x hx) (by have := HON.out; have := HON2.out; simp; omega)
        rw [cmd_wsf] at hp
        refine hp.mono ?_
        rintro e W17 ⟨V, rfl, hv, b17⟩
        obtain ⟨vo, vf, P1, R1, rfl, hP1, hPm1, hR1, hRm1⟩ := hv
        have hP0 : P1.length = 0 := by have := congrArg List.length hPm1; simpa using this
        obtain ⟨oa, oc, rfl⟩ := hP1.form
        obtain ⟨fa, fc, rfl⟩ := hR1.form
        rw [hP0]
        have HQ17 := Lib.hid ((HQR.out.below HB16.out).extend b17)
        have HRD := Lib.hid (show ∀ q ∈ R1, RdIn W17 (fun k => W16.heap.size ≤ k ∧ k < W17.heap.size) q.2.1 q.1.ords from fun q hq => by
          obtain ⟨h1, h2⟩ := hR1.own q hq
          rw [← h2]; exact Cmd.OrdsOwn.rdIn h1)
        have HR17 := Lib.hid hR1
        have HRM := Lib.hid hRm1
        have HOW17 := Lib.hid ((HOW.out.below HW16.out).below b17)
        have HB17 := Lib.hid (HB16.out.trans (b17.mono HB16.out.size))
        obtain ⟨fn, hfn⟩ : ∃ fn, fn = R1.length := ⟨_, rfl⟩
        have HFN : Hid (fn ≤ 1) := Lib.hid (by
          have h1 := congrArg List.length hRm1
          rw [List.length_map] at h1
          have h2 := FM_one_le r (by have := HM.out; omega)
          have h3 : R1.length = (FM (oneL r)).1.length := h1
          omega)
        obtain ⟨E1, hE1⟩ : ∃ E1, E1 = (FM (oneL r)).2 := ⟨_, rfl⟩
        have HE1 := Lib.hid hE1
        have HFN2 := Lib.hid hfn
        simp only
        rw [← hfn, ← hE1]
        clear hP1 hPm1 hR1 hRm1 hP0 b17 hfn hE1 hp
        have hb18 := below_alloc W17 (.cells #[.int .u8 243, .int .u8 0, .slice oa 0 oc, .int .i64 E1, .slice fa fn fc] 28)
        have hc18 := heap_alloc_new W17 (.cells #[.int .u8 243, .int .u8 0, .slice oa 0 oc, .int .i64 E1, .slice fa fn fc] 28)
        obtain ⟨W18, hW18⟩ : ∃ W18, W18 = W17.alloc (.cells #[.int .u8 243, .int .u8 0, .slice oa 0 oc, .int .i64 E1, .slice fa fn fc] 28) := ⟨_, rfl⟩
        obtain ⟨cb, hcb⟩ : ∃ cb, cb = W17.heap.size := ⟨_, rfl⟩
        rw [← hW18] at hb18 hc18
        rw [← hcb] at hc18
        have HW18 := Lib.hid hW18.symm
        have HCB := Lib.hid hcb.symm
        have HCB2 : Hid (wr.heap.size ≤ cb) := Lib.hid (by rw [hcb]; exact HB17.out.size)
        have HC18 := Lib.hid hc18
        have HQ18 := Lib.hid (HQ17.out.below hb18)
        have HRD18 := Lib.hid (fun q hq => (HRD.out q hq).on (fun k _ hl => hb18.block k hl) hb18.size)
        have HR18 := Lib.hid (HR17.out.below hb18)
        have HOW18 := Lib.hid (HOW17.out.below hb18)
        have HB18 := Lib.hid (HB17.out.trans (hb18.mono HB17.out.size))
        have HW16S : Hid (wr.heap.size ≤ W16.heap.size) := Lib.hid HB16.out.size
        clear hb18 hc18 hW18 hcb HRD HR17 HOW17 HQ17
        obtain ⟨c0, c1, c2, c3, c4, _⟩ := cells5 HC18.out
        have tf : ¬ (1 : Int) < (fn : Int) := by have := HFN.out; omega
        go_upto_region 16 with fail
        rw [HW18.out, HCB.out]
        go_upto_region 18 with fail
        clear c0 c1 c2 c3 c4
        have hcap : Hid (([243] ++ A).length + (oneL r).length ≤ 10000000) := Lib.hid (by have := HLA.out; have := HON.out; have := HON2.out; simp; omega)
        go_upto_region 19 with (at_builtin; go_loud (refine append_row_at rfl _ _ rfl HQ18.out.all HOW18.out.row HXC.out rfl rfl hcap.out (Nat.le_trans HOL.out.size HB18.out.size) ?_); intro v19 W19 hown hg hat; have HO19 := Lib.hid hown; have HG19 := Lib.hid hg; have HAT19 := Lib.hid hat; clear hown hg hat)
        have HQ19 := Lib.hid (HQ18.out.growAll (X := oneL r) HO19.out HG19.out HAT19.out)
        have HC19 := Lib.hid ((HG19.out.block cb (lt_of_block HC18.out) (fun e => by have := HAB.out.1 cb e.symm; have := HCB2.out; omega)).trans HC18.out)
        have HR19 := Lib.hid (HR18.out.keep (w' := W19) fun g hg hl => HG19.out.block g hl (fun e => by have := HAB.out.1 g e.symm; have := HW16S.out; omega))
        have HRD19 := Lib.hid (fun q hq => (HRD18.out q hq).on (w1 := W19) (fun k hk hl => HG19.out.block k hl (fun e => by have := HAB.out.1 k e.symm; have := HW16S.out; omega)) HG19.out.size)
        have HSW : Hid (w.heap.size ≤ wr.heap.size) := Lib.hid HOL.out.size
        have HB18W := Lib.hid (HOL.out.trans (HB18.out.mono HOL.out.size))
        have HB19 := Lib.hid (HB18W.out.trans (((Turn.refl (fun k => w.heap.size ≤ k) W18).grown HG19.out (fun k e => .inr (World.ownsRow.lt HQ18.out.all k e).1)).below HB18W.out.size (fun k hk => hk)))
        have HBY2 : Hid (∀ x ∈ A ++ oneL r, 0 ≤ x ∧ x < 256) := Lib.hid (fun x hx => by
          rcases List.mem_append.1 hx with hx | hx
          · exact HBY.out x hx
          · exact oneL_by r (by have := HM.out; omega) HRB.out x hx)
        have HLA2 : Hid ((A ++ oneL r).length ≤ (k + 1) * 102) := Lib.hid (by rw [List.length_append]; have := HLA.out; have := HON.out; have := HON2.out; omega)
        clear HO19 HG19 HAT19 HR18 HRD18 HQ18 HC18 hcap HOW18 HQR
        by_cases hE : E = 0
        · subst hE
          have HGG := Lib.hid (HG.out.go r (by have := HM.out; omega))
          obtain ⟨c0, c1, c2, c3, c4, _⟩ := cells5 HC19.out
          have hq1 : Hid (qn + R1.length ≤ 100000) := Lib.hid (by have := HQN.out; have := HLQ.out; have := HFN.out; have := HFN2.out; omega)
          have hrow : Hid (W19.ownsRow w.heap.size 39 7 (.slice wa qn wc) qn (flC Q)) := Lib.hid (by have := HQ19.out.row; rwa [← HQN.out] at this)
          have hR19 : Hid (FlsOwn W16.heap.size W19 (.slice fa fn fc) R1) := Lib.hid (by have := HR19.out; rwa [← HFN2.out] at this)
          go_upto_region 21 with (at_builtin; go_loud (refine append_fls_at rfl _ _ rfl hrow.out hR19.out rfl rfl hq1.out HB19.out.size ?_); intro v20 W20 hown hg hat; have HO20 := Lib.hid hown; have HG20 := Lib.hid hg; have HAT20 := Lib.hid hat; clear hown hg hat)
          have HQ20 := Lib.hid (HQ19.out.growWant (R := R1) (fun q hq => (HRD19.out q hq).more fun k hk => .inr ⟨hk.1, hk.2⟩) (by rw [← HQN.out]; exact HO20.out) HG20.out HAT20.out)
          have HC20 := (HG20.out.block cb (lt_of_block HC19.out) (fun e => by have := HAB.out.2 cb e.symm; have := HCB2.out; omega)).trans HC19.out
          have HB20 := Lib.hid (HB19.out.trans (((Turn.refl (fun k => w.heap.size ≤ k) W19).grown HG20.out (fun k e => .inr (World.ownsRow.lt HQ19.out.row k e).1)).below HB19.out.size (fun k hk => hk)))
          clear c0 c1 c2 c3 c4
          obtain ⟨c0, c1, c2, c3, c4, _⟩ := cells5 HC20
          clear HC20
          go_wp2_with fail
          go_roundw
          case rel =>
            refine ⟨k + 1, A ++ oneL r, Q ++ R1, E1, _, by omega, by go_num, rfl, HQ20.out, ?_, HLA2.out, ?_, HBY2.out, HB20.out⟩
            · have := HGG.out
              rw [List.map_append, HRM.out, HE1.out]; exact this
            · rw [List.length_append]; have := HLQ.out; have := HFN.out; have := HFN2.out; omega
          case measure => simp [intOf]; omega
        · have HNE := Lib.hid hE
          have tE : (E == 0) = false := by simpa using hE
          clear hE
          go_wp2_with fail
          go_roundw
          case rel => exact ⟨k + 1, A ++ oneL r, Q, E, _, by omega, by go_num, rfl, HQ19.out, HG.out.stay HNE.out r, HLA2.out, by have := HLQ.out; omega, HBY2.out, HB19.out⟩
          case measure => simp [intOf]; omega
    · obtain rfl : n = k := by omega
      have HFMA := Lib.hid HG.out.all
      have hp := cparse_any (HT.out.below HOL.out) (.slice aa an ac) ([243] ++ A) HQR.out.all.cut (fun x hx => by
        rcases List.mem_append.1 hx with hx | hx
        · obtain rfl : x = 243 := by simpa using hx
          omega
        · exact HBY.out x hx) (by have := HLA.out; simp; omega)
      rw [cmd_wsf, HFMA.out] at hp
      have HP := Lib.hid hp
      clear hp
      go_wp2_with fail
      refine HP.out.mono ?_
      rintro e W2 ⟨V, rfl, hv, b2⟩
      have HV2 := Lib.hid hv.r
      obtain ⟨za, zb, zc, zd, rfl⟩ := cmV_form2 hv
      have HQ2 := Lib.hid (HQR.out.below b2)
      have HB2 := Lib.hid (HOL.out.trans (b2.mono HOL.out.size))
      simp only at HV2 ⊢
      obtain ⟨fn, hfn⟩ : ∃ m, m = (Q.map (·.1)).length := ⟨_, rfl⟩
      rw [← hfn] at HV2 ⊢
      clear hv b2 hfn
      have hb3 := below_alloc W2 (.cells #[.int .u8 243, .int .u8 0, .slice za ([] : List Or).length zc, .int .i64 E, .slice zb fn zd] 28)
      have hc3 := heap_alloc_new W2 (.cells #[.int .u8 243, .int .u8 0, .slice za ([] : List Or).length zc, .int .i64 E, .slice zb fn zd] 28)
      simp only [List.length_nil] at hb3 hc3 HV2 ⊢
      obtain ⟨W3, hW3⟩ : ∃ W3, W3 = W2.alloc (.cells #[.int .u8 243, .int .u8 0, .slice za 0 zc, .int .i64 E, .slice zb fn zd] 28) := ⟨_, rfl⟩
      obtain ⟨cb, hcb⟩ : ∃ cb, cb = W2.heap.size := ⟨_, rfl⟩
      rw [← hW3] at hb3 hc3
      rw [← hcb] at hc3
      have HW3 := Lib.hid hW3.symm
      have HCB := Lib.hid hcb.symm
      have HB3 := Lib.hid (HB2.out.trans (hb3.mono HB2.out.size))
      have HV3 := Lib.hid (HV2.out.below hb3)
      have HQ3 := Lib.hid (HQ2.out.below hb3)
      have HOK := Lib.hid (FM_ok HBY.out (by have := HLA.out; omega) HFMA.out 243 E)
      have HS := Lib.hid (csame_any HV3.out (show CmR W3 ⟨243, 0, [], E, Q.map (·.1)⟩ (.agg #[.int .u8 243, .int .u8 0, .slice none 0 0, .int .i64 E, .slice wa qn wc]) from ⟨_, _, rfl, OrdsOwn.at2 (OrdsOwn.nil 0 W3), HQ3.out.at⟩) HOK.out HOK.out)
      obtain ⟨c0, c1, c2, c3, c4, _⟩ := cells5 hc3
      clear hb3 hc3 hW3 hcb
      go_upto_region 24 with fail
      rw [HW3.out, HCB.out]
      go_wp2_with fail
      refine HS.out.mono ?_
      rintro e W4 ⟨rfl, b4⟩
      have HB4 := Lib.hid (HB3.out.trans (b4.mono HB3.out.size))
      clear b4
      go_wp2_with fail
      go_ret
      exact ⟨rfl, HB4.out⟩
end Go.Proofs.YtmmgebiojpnhcaaDoor.Cmd
