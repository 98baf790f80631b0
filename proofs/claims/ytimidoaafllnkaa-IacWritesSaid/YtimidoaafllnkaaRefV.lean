/-
  The reference's Write: its contract.
-/
import Derived.Test.YtimidoaafllnkaaRefW
import Derived.Test.YtimidoaafllnkaaIacC
namespace Go.Proofs.Ytimidoaafllnkaa.Iac
open Go.RowKit Base
set_option linter.unusedVariables false
set_option linter.unusedSimpArgs false

theorem four_own {s : Nat} {w : World} {a b c d : Value} {A B C D : List Int} (h1 : OwnBytes s w a A) (h2 : OwnBytes s w b B) (h3 : OwnBytes s w c C) (h4 : OwnBytes s w d D) : ∀ p ∈ ([(A, a), (B, b), (C, c), (D, d)] : List SlP), OwnBytes s w p.2 p.1 := by
  intro p hp
  simp at hp
  rcases hp with rfl | rfl | rfl | rfl
  · exact h1
  · exact h2
  · exact h3
  · exact h4
theorem one_own {s : Nat} {w : World} {a : Value} {A : List Int} (h1 : OwnBytes s w a A) : ∀ p ∈ ([(A, a)] : List SlP), OwnBytes s w p.2 p.1 := by
  intro p hp
  simp at hp
  subst hp
  exact h1
theorem box_grown {w0 Z Z' : World} {v : Value} {P : List SlP} {eb : Nat} {cs : Array Value} (h : WQ w0 v P eb cs Z) (hg : Z.grownBy Z' v.ownBlock) : Z'.heap[eb]? = some (.cells cs 32 (0, 0)) := by
  refine (hg.block eb (lt_of_block h.box) fun e => ?_).trans h.box
  obtain ⟨c, fz, h1⟩ := Lib.ownsRow_kind h.own.row eb e.symm
  have h2 := h.box
  rw [h1] at h2
  cases h2
theorem box_cells {Z : World} {eb : Nat} {x0 x1 x2 x3 : Value} (h : Z.heap[eb]? = some (.cells #[x0, x1, x2, x3] 32 (0, 0))) : Z.cell? ⟨eb, 2, none⟩ = some x2 ∧ Z.cell? ⟨eb, 3, none⟩ = some x3 := by
  simp [World.cell?, h]
def RWRel (L : List Ev) (n : Nat) (w : World) (v i : Value) (wr : World) : Prop :=
  ∃ (k : Nat) (P : List SlP), k ≤ n ∧ i = .int .i64 k ∧ SOwn w.heap.size wr v P ∧ (P.map (·.1)).flatten = writeL (L.take k) ∧ P.length ≤ k * 4 ∧ Below w.heap.size w wr
set_option maxRecDepth 100000 in
set_option maxHeartbeats 16000000 in
theorem rwrite_any (v : Value) (L : List Ev) (w : World) (h : EvsAt w v L) (hb : ∀ e ∈ L, e.bytes.length ≤ 100000) (hl : (writeL L).length ≤ 1000000) (hm : L.length ≤ 20000) :
    Calls Try.prog 15 #[v] w fun e w' => ∃ p, e = .returned p ∧ OwnBytes w.heap.size w' p (writeL L) ∧ Below w.heap.size w w' := by
  obtain ⟨a, cap, rfl, hrow⟩ := h
  obtain ⟨n, hn⟩ : ∃ n, n = L.length := ⟨_, rfl⟩
  rw [← hn] at hm ⊢
  have HN := Lib.hid hn
  have HR := Lib.hid hrow
  have HBB := Lib.hid hb
  have HL := Lib.hid hl
  have HBL : Hid ((100000 : Nat) ≤ 100000) := Lib.hid (Nat.le_refl _)
  have H0 := Lib.hid (SOwn.nil (s := w.heap.size) (w := w) (Nat.le_refl _))
  have HB0 := Lib.hid (below_alloc w (.cells #[] 24))
  clear hn hrow hb hl HBL
  go_enter Try.func15, Try.ntmps15
  go_upto_region 3 with fail
  go_loopw [3, 4] (fun v i wr => RWRel L n w v i wr) (fun _ i _ => n - (intOf i).toNat)
  case atStart => exact ⟨0, [], by omega, rfl, H0.out, by simp [writeL], by simp, HB0.out⟩
  case round =>
    obtain ⟨k, P, hk, rfl, hO, hP, hPl, hold⟩ := hrel
    by_cases hkn : k < n
    · have hkni : (k : Int) < (n : Int) := by omega
      have hkl : k < L.length := by rw [← HN.out]; exact hkn
      obtain ⟨g, off, rfl, hgl, hc⟩ := HR.out (by intro e; rw [e] at hkl; simp at hkl)
      obtain ⟨q, hq⟩ : ∃ q, L[k]? = some q := ⟨_, List.getElem?_eq_getElem hkl⟩
      have htk : writeL (L.take (k + 1)) = writeL (L.take k) ++ writtenL q := by
        rw [List.take_succ_eq_append_getElem hkl, writeL_snoc]
        obtain ⟨_, e⟩ := List.getElem?_eq_some_iff.1 hq
        rw [e]
      obtain ⟨u, d0, d1, d2, d3, hu⟩ := hc k q hq
      have d0 := (hold.cell (p := ⟨g, off + k * 4, none⟩) hgl).trans d0
      have d1 := (hold.cell (p := ⟨g, off + k * 4 + 1, none⟩) hgl).trans d1
      have d2 := (hold.cell (p := ⟨g, off + k * 4 + 2, none⟩) hgl).trans d2
      have d3 := (hold.cell (p := ⟨g, off + k * 4 + 3, none⟩) hgl).trans d3
      have HBL := Lib.hid (HBB.out q (List.mem_of_getElem? hq))
      obtain ⟨ua, ul, uc, rfl⟩ : ∃ ua ul uc, u = .slice ua ul uc := by
        obtain ⟨a', c', e', _⟩ := hu
        exact ⟨a', _, c', e'⟩
      obtain ⟨kd, code, o, B⟩ := q
      simp only at d0 d1 d2 d3 hu HBL
      have HU := Lib.hid hu
      have HTK := Lib.hid htk
      have HP := Lib.hid hP
      have HPL : Hid (P.length ≤ k * 4 ∧ k ≤ 20000) := Lib.hid ⟨hPl, by omega⟩
      have hb1 := below_alloc wr (.cells #[.int .i64 kd, .int .u8 code, .int .u8 o, .slice ua ul uc] 32)
      have hblk := heap_alloc_new wr (.cells #[.int .i64 kd, .int .u8 code, .int .u8 o, .slice ua ul uc] 32)
      obtain ⟨W1, hW1⟩ : ∃ W1, W1 = wr.alloc (.cells #[.int .i64 kd, .int .u8 code, .int .u8 o, .slice ua ul uc] 32) := ⟨_, rfl⟩
      obtain ⟨eb, heb⟩ : ∃ eb, eb = wr.heap.size := ⟨_, rfl⟩
      rw [← hW1] at hb1 hblk
      rw [← heb] at hblk
      have HQ0 : Hid (WQ w _ P eb #[.int .i64 kd, .int .u8 code, .int .u8 o, .slice ua ul uc] W1) := Lib.hid ⟨hO.below hb1, hblk, hold.trans (hb1.mono hold.size)⟩
      have HW1 := Lib.hid hW1.symm
      have HEB := Lib.hid heb.symm
      obtain ⟨oa, oc, rfl⟩ := hO.form
      obtain ⟨pn, hpn⟩ : ∃ pn, pn = P.length := ⟨_, rfl⟩
      rw [← hpn] at HQ0 ⊢
      clear htk hP hPl hold hO hc hkl hgl hq hu hb1 hblk hW1 heb hpn
      have kinds : kd = 1 ∨ kd = 2 ∨ kd = 3 ∨ kd = 4 ∨ (kd = 5 ∨ kd = 6) ∨ ((kd == 1) = false ∧ (kd == 2) = false ∧ (kd == 3) = false ∧ (kd == 4) = false ∧ (kd == 5) = false ∧ (kd == 6) = false) := by simp; omega
      rcases kinds with rfl | rfl | rfl | rfl | h56 | ⟨e1, e2, e3, e4, e5, e6⟩
      case inr.inr.inr.inr.inr =>
        go_upto_region 6 with fail
        rw [HW1.out, HEB.out]
        clear d0 d1 d2 d3
        obtain ⟨d0, d1, d2, d3⟩ := HQ0.out.all
        have HWR : Hid (writtenL ⟨kd, code, o, B⟩ = []) := Lib.hid (by simp at e1 e2 e3 e4 e5 e6; simp [writtenL, e1, e2, e3, e4, e5, e6])
        go_wp2_with fail
        go_roundw
        case rel => exact ⟨k + 1, P, by omega, by go_num, HQ0.out.own, by rw [HTK.out, HWR.out, HP.out, List.append_nil], by have := HPL.out.1; omega, HQ0.out.old⟩
        case measure => simp [intOf]; omega
      case inl =>
        go_upto_region 6 with fail
        rw [HW1.out, HEB.out]
        clear d0 d1 d2 d3
        obtain ⟨d0, d1, d2, d3⟩ := HQ0.out.all
        go_wp2_with fail
        refine (rescape_any _ B W1 (HU.out.below HQ0.out.old) HBL.out).mono ?_
        rintro e Z1 ⟨pD, rfl, hp, t0⟩
        have HQ1 := Lib.hid (HQ0.out.below t0)
        have RD1 := Lib.hid (hp.lower HQ0.out.old.size)
        obtain ⟨da, dc, rfl⟩ := row_form hp
        obtain ⟨dn, hdn⟩ : ∃ m, m = (escL B).length := ⟨_, rfl⟩
        rw [← hdn] at RD1 ⊢
        have t1 := below_alloc Z1 (.cells #[.slice da dn dc] 24)
        have HQ2 := Lib.hid (HQ1.out.below t1)
        have RD2 := Lib.hid (RD1.out.below t1)
        have HCL := Lib.hid (sl_cl Z1 #[.slice da dn dc] 24)
        clear hp hdn t0 t1 d0 d1 d2 d3
        obtain ⟨d0, d1, d2, d3⟩ := HQ1.out.all
        go_wp2_with (at_builtin; refine wpList_append_sl (Q := [(escL B, .slice da dn dc)]) rfl _ _ rfl HQ2.out.own (one_own RD2.out) HCL.out rfl rfl rfl (by have := HPL.out; simp; omega) HQ2.out.old.size ?_)
        intro v9 W9 hown hg
        have HZ := Lib.hid (HQ2.out.grown hown hg)
        have HB9 := box_grown HQ2.out hg
        have HO9 := Lib.hid hown
        have c0 : W9.cell? ⟨eb, 0, none⟩ = some (.int .i64 1) := by simp [World.cell?, HB9]
        clear hown hg HB9 d0 d1 d2 d3
        go_wp2_with fail
        go_roundw
        case rel => exact ⟨k + 1, _, by omega, by go_num, HO9.out, by rw [HTK.out, List.map_append, List.flatten_append, HP.out]; simp [writtenL], by have := HPL.out; simp; omega, HZ.out⟩
        case measure => simp [intOf]; omega
      case inr.inl =>
        go_upto_region 6 with fail
        rw [HW1.out, HEB.out]
        clear d0 d1 d2 d3
        obtain ⟨d0, d1, d2, d3⟩ := HQ0.out.all
        have t0 := below_alloc W1 (.cells #[.int .u8 255, .int .u8 239] 5)
        have HQ1 := Lib.hid (HQ0.out.below t0)
        have RD1 := Lib.hid ((new2_own W1 255 239).lower HQ0.out.old.size)
        have t1 := below_alloc (W1.alloc (.cells #[.int .u8 255, .int .u8 239] 5)) (.cells #[.slice (some ⟨W1.heap.size, 0, none⟩) 2 2] 24)
        have HQ2 := Lib.hid (HQ1.out.below t1)
        have RD2 := Lib.hid (RD1.out.below t1)
        have hcl := sl_cl (W1.alloc (.cells #[.int .u8 255, .int .u8 239] 5)) #[.slice (some ⟨W1.heap.size, 0, none⟩) 2 2] 24
        rw [World.size_alloc] at hcl
        have HCL := Lib.hid hcl
        clear t0 t1 hcl
        go_wp2_with (at_builtin; refine wpList_append_sl (Q := [([255, 239], .slice (some ⟨W1.heap.size, 0, none⟩) 2 2)]) rfl _ _ rfl HQ2.out.own (one_own RD2.out) HCL.out rfl rfl rfl (by have := HPL.out; simp; omega) HQ2.out.old.size ?_)
        intro v9 W9 hown hg
        have HZ := Lib.hid (HQ2.out.grown hown hg)
        have HB9 := box_grown HQ2.out hg
        have HO9 := Lib.hid hown
        have c0 : W9.cell? ⟨eb, 0, none⟩ = some (.int .i64 2) := by simp [World.cell?, HB9]
        clear hown hg HB9 d0 d1 d2 d3
        go_wp2_with fail
        go_roundw
        case rel => exact ⟨k + 1, _, by omega, by go_num, HO9.out, by rw [HTK.out, List.map_append, List.flatten_append, HP.out]; simp [writtenL], by have := HPL.out; simp; omega, HZ.out⟩
        case measure => simp [intOf]; omega
      case inr.inr.inl =>
        go_upto_region 6 with fail
        rw [HW1.out, HEB.out]
        clear d0 d1 d2 d3
        obtain ⟨d0, d1, d2, d3⟩ := HQ0.out.all
        have t0 := below_alloc W1 (.cells #[.int .u8 255, .int .u8 code] 5)
        have HQ1 := Lib.hid (HQ0.out.below t0)
        have RD1 := Lib.hid ((new2_own W1 255 code).lower HQ0.out.old.size)
        have t1 := below_alloc (W1.alloc (.cells #[.int .u8 255, .int .u8 code] 5)) (.cells #[.slice (some ⟨W1.heap.size, 0, none⟩) 2 2] 24)
        have HQ2 := Lib.hid (HQ1.out.below t1)
        have RD2 := Lib.hid (RD1.out.below t1)
        have hcl := sl_cl (W1.alloc (.cells #[.int .u8 255, .int .u8 code] 5)) #[.slice (some ⟨W1.heap.size, 0, none⟩) 2 2] 24
        rw [World.size_alloc] at hcl
        have HCL := Lib.hid hcl
        clear t0 t1 hcl
        go_wp2_with (at_builtin; refine wpList_append_sl (Q := [([255, code], .slice (some ⟨W1.heap.size, 0, none⟩) 2 2)]) rfl _ _ rfl HQ2.out.own (one_own RD2.out) HCL.out rfl rfl rfl (by have := HPL.out; simp; omega) HQ2.out.old.size ?_)
        intro v9 W9 hown hg
        have HZ := Lib.hid (HQ2.out.grown hown hg)
        have HB9 := box_grown HQ2.out hg
        have HO9 := Lib.hid hown
        have c0 : W9.cell? ⟨eb, 0, none⟩ = some (.int .i64 3) := by simp [World.cell?, HB9]
        clear hown hg HB9 d0 d1 d2 d3
        go_wp2_with fail
        go_roundw
        case rel => exact ⟨k + 1, _, by omega, by go_num, HO9.out, by rw [HTK.out, List.map_append, List.flatten_append, HP.out]; simp [writtenL], by have := HPL.out; simp; omega, HZ.out⟩
        case measure => simp [intOf]; omega
      case inr.inr.inr.inl =>
        go_upto_region 6 with fail
        rw [HW1.out, HEB.out]
        clear d0 d1 d2 d3
        obtain ⟨d0, d1, d2, d3⟩ := HQ0.out.all
        have t0 := below_alloc W1 (.cells #[.int .u8 255, .int .u8 code, .int .u8 o] 5)
        have HQ1 := Lib.hid (HQ0.out.below t0)
        have RD1 := Lib.hid ((new3_own W1 255 code o).lower HQ0.out.old.size)
        have t1 := below_alloc (W1.alloc (.cells #[.int .u8 255, .int .u8 code, .int .u8 o] 5)) (.cells #[.slice (some ⟨W1.heap.size, 0, none⟩) 3 3] 24)
        have HQ2 := Lib.hid (HQ1.out.below t1)
        have RD2 := Lib.hid (RD1.out.below t1)
        have hcl := sl_cl (W1.alloc (.cells #[.int .u8 255, .int .u8 code, .int .u8 o] 5)) #[.slice (some ⟨W1.heap.size, 0, none⟩) 3 3] 24
        rw [World.size_alloc] at hcl
        have HCL := Lib.hid hcl
        clear t0 t1 hcl
        go_wp2_with (at_builtin; refine wpList_append_sl (Q := [([255, code, o], .slice (some ⟨W1.heap.size, 0, none⟩) 3 3)]) rfl _ _ rfl HQ2.out.own (one_own RD2.out) HCL.out rfl rfl rfl (by have := HPL.out; simp; omega) HQ2.out.old.size ?_)
        intro v9 W9 hown hg
        have HZ := Lib.hid (HQ2.out.grown hown hg)
        have HB9 := box_grown HQ2.out hg
        have HO9 := Lib.hid hown
        have c0 : W9.cell? ⟨eb, 0, none⟩ = some (.int .i64 4) := by simp [World.cell?, HB9]
        clear hown hg HB9 d0 d1 d2 d3
        go_wp2_with fail
        go_roundw
        case rel => exact ⟨k + 1, _, by omega, by go_num, HO9.out, by rw [HTK.out, List.map_append, List.flatten_append, HP.out]; simp [writtenL], by have := HPL.out; simp; omega, HZ.out⟩
        case measure => simp [intOf]; omega
      case inr.inr.inr.inr.inl =>
        have HWR : Hid (writtenL ⟨kd, code, o, B⟩ = tellL o B) := Lib.hid (by rcases h56 with rfl | rfl <;> rfl)
        have H56 := Lib.hid h56
        have e1 : (kd == 1) = false := by rcases h56 with rfl | rfl <;> rfl
        have e2 : (kd == 2) = false := by rcases h56 with rfl | rfl <;> rfl
        have e3 : (kd == 3) = false := by rcases h56 with rfl | rfl <;> rfl
        have e4 : (kd == 4) = false := by rcases h56 with rfl | rfl <;> rfl
        clear h56
        go_upto_region 6 with fail
        rw [HW1.out, HEB.out]
        clear d0 d1 d2 d3
        obtain ⟨d0, d1, d2, d3⟩ := HQ0.out.all
        go_upto_region 14 with fail
        go_cut [60] (fun t wx => t = .bool true ∧ wx = W1)
        case first =>
          rcases H56.out with rfl | rfl
          · go_wp2_with fail
            go_meet
            case rel => exact ⟨rfl, rfl⟩
          · go_wp2_with fail
            go_meet
            case rel => exact ⟨rfl, rfl⟩
        case rest =>
        obtain ⟨rfl, rfl⟩ := hcut
        go_upto_region 15 with fail
        clear d0 d1 d2 d3 e1 e2 e3 e4
        have HQD := Lib.hid HQ0.out.drew
        obtain ⟨Z0, hZ0⟩ : ∃ Y, Y = wc.drew := ⟨_, rfl⟩
        rw [← hZ0] at HQD
        refine wp_region_held_drew (S := (fun Z => Z.cell? ⟨eb, 2, none⟩ = some (.int .u8 o) ∧ Z.cell? ⟨eb, 3, none⟩ = some (.slice ua ul uc))) (by kernel_rfl) (HQ0.out.drew.cells) (fun hHeld => ?_)
        rw [← hZ0] at hHeld ⊢
        clear hZ0 HQ0
        have HQ0 := HQD
        clear HQD
        refine wpAnyH_take (i := 0) (oi := { dst := some 61, op := Op.move (Operand.tmp 3), type := 65, pos := "ref.go:153", after := #[], guard := none }) (v := ?_) rfl (by kernel_rfl) (by kernel_rfl) (by kernel_rfl) (fun _ _ _ h => h) (Or.inl ⟨by rfl, ?_⟩) (by assumption) ?_
        rotate_left
        focus (intro w hSw; (try dsimp only at hSw); go_simp; try (with_reducible rfl))
        try simp only [Act.put, List.setIfInBounds_toArray, List.set_cons_zero, List.set_cons_succ]
        refine wpAnyH_take (i := 2) (oi := { dst := some 63, op := Op.fieldAddr 32 (Operand.tmp 5) 2, type := 0, pos := "ref.go:153", after := #[], guard := none }) (v := ?_) rfl (by kernel_rfl) (by kernel_rfl) (by kernel_rfl) (fun _ _ _ h => h) (Or.inl ⟨by rfl, ?_⟩) (by assumption) ?_
        rotate_left
        focus (intro w hSw; (try dsimp only at hSw); go_simp; try (with_reducible rfl))
        try simp only [Act.put, List.setIfInBounds_toArray, List.set_cons_zero, List.set_cons_succ]
        refine wpAnyH_take (i := 3) (oi := { dst := some 64, op := Op.load 5 (Operand.tmp 63), type := 5, pos := "ref.go:153", after := #[{ on := 2, ground := Ground.data }], guard := none }) (v := ?_) rfl (by kernel_rfl) (by kernel_rfl) (by kernel_rfl) (fun _ _ _ h => h) (Or.inl ⟨by rfl, ?_⟩) (by assumption) ?_
        rotate_left
        focus (intro w hSw; (try dsimp only at hSw); go_simp; try (with_reducible rfl))
        try simp only [Act.put, List.setIfInBounds_toArray, List.set_cons_zero, List.set_cons_succ]
        refine wpAnyH_take (i := 6) (oi := { dst := some 67, op := Op.fieldAddr 32 (Operand.tmp 5) 3, type := 0, pos := "ref.go:153", after := #[], guard := none }) (v := ?_) rfl (by kernel_rfl) (by kernel_rfl) (by kernel_rfl) (fun _ _ _ h => h) (Or.inl ⟨by rfl, ?_⟩) (by assumption) ?_
        rotate_left
        focus (intro w hSw; (try dsimp only at hSw); go_simp; try (with_reducible rfl))
        try simp only [Act.put, List.setIfInBounds_toArray, List.set_cons_zero, List.set_cons_succ]
        refine wpAnyH_take (i := 7) (oi := { dst := some 68, op := Op.load 24 (Operand.tmp 67), type := 24, pos := "ref.go:153", after := #[{ on := 6, ground := Ground.data }], guard := none }) (v := ?_) rfl (by kernel_rfl) (by kernel_rfl) (by kernel_rfl) (fun _ _ _ h => h) (Or.inl ⟨by rfl, ?_⟩) (by assumption) ?_
        rotate_left
        focus (intro w hSw; (try dsimp only at hSw); go_simp; try (with_reducible rfl))
        try simp only [Act.put, List.setIfInBounds_toArray, List.set_cons_zero, List.set_cons_succ]
        refine wpAnyH_ready (rs := [1, 4, 9]) (by kernel_rfl) (by simp) (AllReadyH.cons (o := { dst := some 62, op := Op.buildSlice 24 2 #[(0, Operand.const (Value.int IntKind.u8 255)), (1, Operand.const (Value.int IntKind.u8 250))], type := 24, pos := "ref.go:153", after := #[], guard := none }) rfl (fun K hK => ?_) (AllReadyH.cons (o := { dst := some 65, op := Op.buildSlice 24 1 #[(0, Operand.tmp 64)], type := 24, pos := "ref.go:153", after := #[{ on := 3, ground := Ground.data }], guard := none }) rfl (fun K hK => ?_) (AllReadyH.cons (o := { dst := some 70, op := Op.buildSlice 24 2 #[(0, Operand.const (Value.int IntKind.u8 255)), (1, Operand.const (Value.int IntKind.u8 240))], type := 24, pos := "ref.go:153", after := #[], guard := none }) rfl (fun K hK => ?_) AllReadyH.nil)))
        · rw [if_pos (by rfl)]
          go_simp
          refine hK.out _ _ (HQ0.out.below (below_alloc Z0 _)).cells (fun hHeld => ?_)
          clear hK K
          try simp only [Act.put, List.setIfInBounds_toArray, List.set_cons_zero, List.set_cons_succ]
          have t0 := below_alloc Z0 (.cells #[.int .u8 255, .int .u8 250] 5)
          have HQ1 := Lib.hid (HQ0.out.below t0)
          have RA1 := Lib.hid ((new2_own Z0 255 250).lower HQ0.out.old.size)
          obtain ⟨Z1, hZ1⟩ : ∃ Y, Y = Z0.alloc (.cells #[.int .u8 255, .int .u8 250] 5) := ⟨_, rfl⟩
          obtain ⟨gA, hgA⟩ : ∃ g, g = Z0.heap.size := ⟨_, rfl⟩
          rw [← hZ1] at HQ1 RA1 hHeld ⊢
          rw [← hgA] at RA1 ⊢
          clear t0 hZ1 hgA
          clear HQ0 
          refine wpAnyH_ready (rs := [4, 9]) (by kernel_rfl) (by simp) (AllReadyH.cons (o := { dst := some 65, op := Op.buildSlice 24 1 #[(0, Operand.tmp 64)], type := 24, pos := "ref.go:153", after := #[{ on := 3, ground := Ground.data }], guard := none }) rfl (fun K hK => ?_) (AllReadyH.cons (o := { dst := some 70, op := Op.buildSlice 24 2 #[(0, Operand.const (Value.int IntKind.u8 255)), (1, Operand.const (Value.int IntKind.u8 240))], type := 24, pos := "ref.go:153", after := #[], guard := none }) rfl (fun K hK => ?_) AllReadyH.nil))
          · rw [if_pos (by rfl)]
            go_simp
            refine hK.out _ _ (HQ1.out.below (below_alloc Z1 _)).cells (fun hHeld => ?_)
            clear hK K
            try simp only [Act.put, List.setIfInBounds_toArray, List.set_cons_zero, List.set_cons_succ]
            have t1 := below_alloc Z1 (.cells #[.int .u8 o] 5)
            have HQ2 := Lib.hid (HQ1.out.below t1)
            have RA2 := Lib.hid (RA1.out.below t1)
            have RB2 := Lib.hid ((own1 Z1 o).lower HQ1.out.old.size)
            obtain ⟨Z2, hZ2⟩ : ∃ Y, Y = Z1.alloc (.cells #[.int .u8 o] 5) := ⟨_, rfl⟩
            obtain ⟨gB, hgB⟩ : ∃ g, g = Z1.heap.size := ⟨_, rfl⟩
            rw [← hZ2] at HQ2 RA2 RB2 hHeld ⊢
            rw [← hgB] at RB2 ⊢
            clear t1 hZ2 hgB
            clear HQ1 RA1
            refine wpAnyH_ready (rs := [5, 9]) (by kernel_rfl) (by simp) (AllReadyH.cons (o := { dst := some 66, op := Op.call { callee := Callee.value (Operand.func 13), args := #[Operand.tmp 65], argTypes := #[24] }, type := 24, pos := "ref.go:153", after := #[{ on := 4, ground := Ground.data }], guard := none }) rfl (fun K hK => ?_) (AllReadyH.cons (o := { dst := some 70, op := Op.buildSlice 24 2 #[(0, Operand.const (Value.int IntKind.u8 255)), (1, Operand.const (Value.int IntKind.u8 240))], type := 24, pos := "ref.go:153", after := #[], guard := none }) rfl (fun K hK => ?_) AllReadyH.nil))
            · rw [if_pos (by rfl)]
              go_simp
              (go_at_call 13; refine (rescape_any _ [o] Z2 RB2.out.row (by simp)).mono ?_; rintro e Z3 ⟨pC, rfl, hp, t2⟩)
              go_wp2_with fail
              refine hK.out _ _ (HQ2.out.below t2).cells (fun hHeld => ?_)
              clear hK K
              try simp only [Act.put, List.setIfInBounds_toArray, List.set_cons_zero, List.set_cons_succ]
              have HQ3 := Lib.hid (HQ2.out.below t2)
              have RA3 := Lib.hid (RA2.out.below t2)
              have RB3 := Lib.hid (RB2.out.below t2)
              have RC3 := Lib.hid (hp.lower HQ2.out.old.size)
              clear hp t2
              clear HQ2 RA2 RB2
              refine wpAnyH_ready (rs := [8, 9]) (by kernel_rfl) (by simp) (AllReadyH.cons (o := { dst := some 69, op := Op.call { callee := Callee.value (Operand.func 13), args := #[Operand.tmp 68], argTypes := #[24] }, type := 24, pos := "ref.go:153", after := #[{ on := 7, ground := Ground.data }, { on := 5, ground := Ground.chain }], guard := none }) rfl (fun K hK => ?_) (AllReadyH.cons (o := { dst := some 70, op := Op.buildSlice 24 2 #[(0, Operand.const (Value.int IntKind.u8 255)), (1, Operand.const (Value.int IntKind.u8 240))], type := 24, pos := "ref.go:153", after := #[], guard := none }) rfl (fun K hK => ?_) AllReadyH.nil))
              · rw [if_pos (by rfl)]
                go_simp
                (go_at_call 13; refine (rescape_any _ B Z3 (HU.out.below HQ3.out.old) (by have := HBL.out; omega)).mono ?_; rintro e Z4 ⟨pD, rfl, hp, t3⟩)
                go_wp2_with fail
                refine hK.out _ _ (HQ3.out.below t3).cells (fun hHeld => ?_)
                clear hK K
                try simp only [Act.put, List.setIfInBounds_toArray, List.set_cons_zero, List.set_cons_succ]
                have HQ4 := Lib.hid (HQ3.out.below t3)
                have RA4 := Lib.hid (RA3.out.below t3)
                have RB4 := Lib.hid (RB3.out.below t3)
                have RC4 := Lib.hid (RC3.out.below t3)
                have RD4 := Lib.hid (hp.lower HQ3.out.old.size)
                clear hp t3
                clear HQ3 RA3 RB3 RC3
                refine wpAnyH_ready (rs := [9]) (by kernel_rfl) (by simp) (AllReadyH.cons (o := { dst := some 70, op := Op.buildSlice 24 2 #[(0, Operand.const (Value.int IntKind.u8 255)), (1, Operand.const (Value.int IntKind.u8 240))], type := 24, pos := "ref.go:153", after := #[], guard := none }) rfl (fun K hK => ?_) AllReadyH.nil)
                rw [if_pos (by rfl)]
                go_simp
                refine hK.out _ _ (HQ4.out.below (below_alloc Z4 _)).cells (fun hHeld => ?_)
                clear hK K
                try simp only [Act.put, List.setIfInBounds_toArray, List.set_cons_zero, List.set_cons_succ]
                have t4 := below_alloc Z4 (.cells #[.int .u8 255, .int .u8 240] 5)
                have HQ5 := Lib.hid (HQ4.out.below t4)
                have RA5 := Lib.hid (RA4.out.below t4)
                have RB5 := Lib.hid (RB4.out.below t4)
                have RC5 := Lib.hid (RC4.out.below t4)
                have RD5 := Lib.hid (RD4.out.below t4)
                have RE5 := Lib.hid ((new2_own Z4 255 240).lower HQ4.out.old.size)
                obtain ⟨Z5, hZ5⟩ : ∃ Y, Y = Z4.alloc (.cells #[.int .u8 255, .int .u8 240] 5) := ⟨_, rfl⟩
                obtain ⟨gE, hgE⟩ : ∃ g, g = Z4.heap.size := ⟨_, rfl⟩
                rw [← hZ5] at HQ5 RA5 RB5 RC5 RD5 RE5 hHeld ⊢
                rw [← hgE] at RE5 ⊢
                clear t4 hZ5 hgE
                clear HQ4 RA4 RB4 RC4 RD4
                refine wpAnyH_ready (rs := [10]) (by kernel_rfl) (by simp) (AllReadyH.cons (o := { dst := some 71, op := Op.buildSlice 65 4 #[(0, Operand.tmp 62), (1, Operand.tmp 66), (2, Operand.tmp 69), (3, Operand.tmp 70)], type := 65, pos := "ref.go:153", after := #[{ on := 1, ground := Ground.data }, { on := 5, ground := Ground.data }, { on := 8, ground := Ground.data }, { on := 9, ground := Ground.data }], guard := none }) rfl (fun K hK => ?_) AllReadyH.nil)
                obtain ⟨ca, cc, rfl⟩ := row_form RC5.out
                obtain ⟨da, dc, rfl⟩ := row_form RD5.out
                obtain ⟨cn, hcn⟩ : ∃ m, m = (escL [o]).length := ⟨_, rfl⟩
                obtain ⟨dn, hdn⟩ : ∃ m, m = (escL B).length := ⟨_, rfl⟩
                rw [← hcn] at RC5 ⊢
                rw [← hdn] at RD5 ⊢
                clear hcn hdn
                rw [if_pos (by rfl)]
                go_simp
                refine hK.out _ _ (HQ5.out.below (below_alloc Z5 _)).cells (fun hHeld => ?_)
                clear hK K
                try simp only [Act.put, List.setIfInBounds_toArray, List.set_cons_zero, List.set_cons_succ]
                have t5 := below_alloc Z5 (.cells #[.slice (some ⟨gA, 0, none⟩) 2 2, .slice ca cn cc, .slice da dn dc, .slice (some ⟨gE, 0, none⟩) 2 2] 24)
                have hcl := sl_cl Z5 #[.slice (some ⟨gA, 0, none⟩) 2 2, .slice ca cn cc, .slice da dn dc, .slice (some ⟨gE, 0, none⟩) 2 2] 24
                have HQ6 := Lib.hid (HQ5.out.below t5)
                have RA6 := Lib.hid (RA5.out.below t5)
                have RB6 := Lib.hid (RB5.out.below t5)
                have RC6 := Lib.hid (RC5.out.below t5)
                have RD6 := Lib.hid (RD5.out.below t5)
                have RE6 := Lib.hid (RE5.out.below t5)
                obtain ⟨Z6, hZ6⟩ : ∃ Y, Y = Z5.alloc (.cells #[.slice (some ⟨gA, 0, none⟩) 2 2, .slice ca cn cc, .slice da dn dc, .slice (some ⟨gE, 0, none⟩) 2 2] 24) := ⟨_, rfl⟩
                obtain ⟨gF, hgF⟩ : ∃ g, g = Z5.heap.size := ⟨_, rfl⟩
                rw [← hZ6, ← hgF] at hcl
                rw [← hZ6] at HQ6 RA6 RB6 RC6 RD6 RE6 hHeld ⊢
                rw [← hgF]
                have HCL := Lib.hid hcl
                clear t5 hZ6 hgF hcl
                clear HQ5 RA5 RB5 RC5 RD5 RE5
                refine wpAnyH_ready (rs := [11]) (by kernel_rfl) (by simp) (AllReadyH.cons (o := { dst := some 72, op := Op.call { callee := Callee.builtin Builtin.append, args := #[Operand.tmp 61, Operand.tmp 71], argTypes := #[65, 65] }, type := 65, pos := "ref.go:153", after := #[{ on := 0, ground := Ground.data }, { on := 10, ground := Ground.data }, { on := 8, ground := Ground.chain }], guard := none }) rfl (fun K hK => ?_) AllReadyH.nil)
                refine step_append_sl (Q := [([255, 250], .slice (some ⟨gA, 0, none⟩) 2 2), (escL [o], .slice ca cn cc), (escL B, .slice da dn dc), ([255, 240], .slice (some ⟨gE, 0, none⟩) 2 2)]) (by rfl) _ _ (by rfl) HQ6.out.own (four_own RA6.out RC6.out RD6.out RE6.out) HCL.out rfl (by rfl) (by rfl) (by have := HPL.out; simp; omega) HQ6.out.old.size ?_
                intro v9 W9 hown hg
                have HZ := Lib.hid (HQ6.out.grown hown hg)
                have HB9 := Lib.hid (box_grown HQ6.out hg)
                have HO9 := Lib.hid hown
                clear hown hg
                refine hK.out _ _ ?_ (fun hHeld => ?_)
                · exact box_cells HB9.out
                clear hK K
                try simp only [Act.put, List.setIfInBounds_toArray, List.set_cons_zero, List.set_cons_succ]
                clear HQ6 RA6 RB6 RC6 RD6 RE6
                refine wpAnyH_take (i := 12) (oi := { dst := some 3, op := Op.assign (Operand.tmp 72), type := 65, pos := "ref.go:153", after := #[{ on := 11, ground := Ground.data }, { on := 11, ground := Ground.chain }, { on := 0, ground := Ground.phase }, { on := 1, ground := Ground.phase }, { on := 2, ground := Ground.phase }, { on := 3, ground := Ground.phase }, { on := 4, ground := Ground.phase }, { on := 5, ground := Ground.phase }, { on := 6, ground := Ground.phase }, { on := 7, ground := Ground.phase }, { on := 8, ground := Ground.phase }, { on := 9, ground := Ground.phase }, { on := 10, ground := Ground.phase }, { on := 11, ground := Ground.phase }], guard := none }) (v := ?_) rfl (by kernel_rfl) (by kernel_rfl) (by kernel_rfl) (fun _ _ _ h => h) (Or.inl ⟨by rfl, ?_⟩) (by assumption) ?_
                rotate_left
                focus (intro w hSw; (try dsimp only at hSw); go_simp; try (with_reducible rfl))
                try simp only [Act.put, List.setIfInBounds_toArray, List.set_cons_zero, List.set_cons_succ]
                refine wpAnyH_done (by kernel_rfl) ?_ _
                go_wp2_with fail
                go_roundw
                case rel => exact ⟨k + 1, _, by omega, by go_num, HO9.out, by rw [HTK.out, HWR.out, List.map_append, List.flatten_append, HP.out]; simp [tellL, List.append_assoc], by have := HPL.out; simp; omega, HZ.out⟩
                case measure => simp [intOf]; omega
              · rw [if_pos (by rfl)]
                go_simp
                refine hK.out _ _ (HQ3.out.below (below_alloc Z3 _)).cells (fun hHeld => ?_)
                clear hK K
                try simp only [Act.put, List.setIfInBounds_toArray, List.set_cons_zero, List.set_cons_succ]
                have t3 := below_alloc Z3 (.cells #[.int .u8 255, .int .u8 240] 5)
                have HQ4 := Lib.hid (HQ3.out.below t3)
                have RA4 := Lib.hid (RA3.out.below t3)
                have RB4 := Lib.hid (RB3.out.below t3)
                have RC4 := Lib.hid (RC3.out.below t3)
                have RE4 := Lib.hid ((new2_own Z3 255 240).lower HQ3.out.old.size)
                obtain ⟨Z4, hZ4⟩ : ∃ Y, Y = Z3.alloc (.cells #[.int .u8 255, .int .u8 240] 5) := ⟨_, rfl⟩
                obtain ⟨gE, hgE⟩ : ∃ g, g = Z3.heap.size := ⟨_, rfl⟩
                rw [← hZ4] at HQ4 RA4 RB4 RC4 RE4 hHeld ⊢
                rw [← hgE] at RE4 ⊢
                clear t3 hZ4 hgE
                clear HQ3 RA3 RB3 RC3
                refine wpAnyH_ready (rs := [8]) (by kernel_rfl) (by simp) (AllReadyH.cons (o := { dst := some 69, op := Op.call { callee := Callee.value (Operand.func 13), args := #[Operand.tmp 68], argTypes := #[24] }, type := 24, pos := "ref.go:153", after := #[{ on := 7, ground := Ground.data }, { on := 5, ground := Ground.chain }], guard := none }) rfl (fun K hK => ?_) AllReadyH.nil)
                rw [if_pos (by rfl)]
                go_simp
                (go_at_call 13; refine (rescape_any _ B Z4 (HU.out.below HQ4.out.old) (by have := HBL.out; omega)).mono ?_; rintro e Z5 ⟨pD, rfl, hp, t4⟩)
                go_wp2_with fail
                refine hK.out _ _ (HQ4.out.below t4).cells (fun hHeld => ?_)
                clear hK K
                try simp only [Act.put, List.setIfInBounds_toArray, List.set_cons_zero, List.set_cons_succ]
                have HQ5 := Lib.hid (HQ4.out.below t4)
                have RA5 := Lib.hid (RA4.out.below t4)
                have RB5 := Lib.hid (RB4.out.below t4)
                have RC5 := Lib.hid (RC4.out.below t4)
                have RE5 := Lib.hid (RE4.out.below t4)
                have RD5 := Lib.hid (hp.lower HQ4.out.old.size)
                clear hp t4
                clear HQ4 RA4 RB4 RC4 RE4
                refine wpAnyH_ready (rs := [10]) (by kernel_rfl) (by simp) (AllReadyH.cons (o := { dst := some 71, op := Op.buildSlice 65 4 #[(0, Operand.tmp 62), (1, Operand.tmp 66), (2, Operand.tmp 69), (3, Operand.tmp 70)], type := 65, pos := "ref.go:153", after := #[{ on := 1, ground := Ground.data }, { on := 5, ground := Ground.data }, { on := 8, ground := Ground.data }, { on := 9, ground := Ground.data }], guard := none }) rfl (fun K hK => ?_) AllReadyH.nil)
                obtain ⟨ca, cc, rfl⟩ := row_form RC5.out
                obtain ⟨da, dc, rfl⟩ := row_form RD5.out
                obtain ⟨cn, hcn⟩ : ∃ m, m = (escL [o]).length := ⟨_, rfl⟩
                obtain ⟨dn, hdn⟩ : ∃ m, m = (escL B).length := ⟨_, rfl⟩
                rw [← hcn] at RC5 ⊢
                rw [← hdn] at RD5 ⊢
                clear hcn hdn
                rw [if_pos (by rfl)]
                go_simp
                refine hK.out _ _ (HQ5.out.below (below_alloc Z5 _)).cells (fun hHeld => ?_)
                clear hK K
                try simp only [Act.put, List.setIfInBounds_toArray, List.set_cons_zero, List.set_cons_succ]
                have t5 := below_alloc Z5 (.cells #[.slice (some ⟨gA, 0, none⟩) 2 2, .slice ca cn cc, .slice da dn dc, .slice (some ⟨gE, 0, none⟩) 2 2] 24)
                have hcl := sl_cl Z5 #[.slice (some ⟨gA, 0, none⟩) 2 2, .slice ca cn cc, .slice da dn dc, .slice (some ⟨gE, 0, none⟩) 2 2] 24
                have HQ6 := Lib.hid (HQ5.out.below t5)
                have RA6 := Lib.hid (RA5.out.below t5)
                have RB6 := Lib.hid (RB5.out.below t5)
                have RC6 := Lib.hid (RC5.out.below t5)
                have RE6 := Lib.hid (RE5.out.below t5)
                have RD6 := Lib.hid (RD5.out.below t5)
                obtain ⟨Z6, hZ6⟩ : ∃ Y, Y = Z5.alloc (.cells #[.slice (some ⟨gA, 0, none⟩) 2 2, .slice ca cn cc, .slice da dn dc, .slice (some ⟨gE, 0, none⟩) 2 2] 24) := ⟨_, rfl⟩
                obtain ⟨gF, hgF⟩ : ∃ g, g = Z5.heap.size := ⟨_, rfl⟩
                rw [← hZ6, ← hgF] at hcl
                rw [← hZ6] at HQ6 RA6 RB6 RC6 RE6 RD6 hHeld ⊢
                rw [← hgF]
                have HCL := Lib.hid hcl
                clear t5 hZ6 hgF hcl
                clear HQ5 RA5 RB5 RC5 RE5 RD5
                refine wpAnyH_ready (rs := [11]) (by kernel_rfl) (by simp) (AllReadyH.cons (o := { dst := some 72, op := Op.call { callee := Callee.builtin Builtin.append, args := #[Operand.tmp 61, Operand.tmp 71], argTypes := #[65, 65] }, type := 65, pos := "ref.go:153", after := #[{ on := 0, ground := Ground.data }, { on := 10, ground := Ground.data }, { on := 8, ground := Ground.chain }], guard := none }) rfl (fun K hK => ?_) AllReadyH.nil)
                refine step_append_sl (Q := [([255, 250], .slice (some ⟨gA, 0, none⟩) 2 2), (escL [o], .slice ca cn cc), (escL B, .slice da dn dc), ([255, 240], .slice (some ⟨gE, 0, none⟩) 2 2)]) (by rfl) _ _ (by rfl) HQ6.out.own (four_own RA6.out RC6.out RD6.out RE6.out) HCL.out rfl (by rfl) (by rfl) (by have := HPL.out; simp; omega) HQ6.out.old.size ?_
                intro v9 W9 hown hg
                have HZ := Lib.hid (HQ6.out.grown hown hg)
                have HB9 := Lib.hid (box_grown HQ6.out hg)
                have HO9 := Lib.hid hown
                clear hown hg
                refine hK.out _ _ ?_ (fun hHeld => ?_)
                · exact box_cells HB9.out
                clear hK K
                try simp only [Act.put, List.setIfInBounds_toArray, List.set_cons_zero, List.set_cons_succ]
                clear HQ6 RA6 RB6 RC6 RE6 RD6
                refine wpAnyH_take (i := 12) (oi := { dst := some 3, op := Op.assign (Operand.tmp 72), type := 65, pos := "ref.go:153", after := #[{ on := 11, ground := Ground.data }, { on := 11, ground := Ground.chain }, { on := 0, ground := Ground.phase }, { on := 1, ground := Ground.phase }, { on := 2, ground := Ground.phase }, { on := 3, ground := Ground.phase }, { on := 4, ground := Ground.phase }, { on := 5, ground := Ground.phase }, { on := 6, ground := Ground.phase }, { on := 7, ground := Ground.phase }, { on := 8, ground := Ground.phase }, { on := 9, ground := Ground.phase }, { on := 10, ground := Ground.phase }, { on := 11, ground := Ground.phase }], guard := none }) (v := ?_) rfl (by kernel_rfl) (by kernel_rfl) (by kernel_rfl) (fun _ _ _ h => h) (Or.inl ⟨by rfl, ?_⟩) (by assumption) ?_
                rotate_left
                focus (intro w hSw; (try dsimp only at hSw); go_simp; try (with_reducible rfl))
                try simp only [Act.put, List.setIfInBounds_toArray, List.set_cons_zero, List.set_cons_succ]
                refine wpAnyH_done (by kernel_rfl) ?_ _
                go_wp2_with fail
                go_roundw
                case rel => exact ⟨k + 1, _, by omega, by go_num, HO9.out, by rw [HTK.out, HWR.out, List.map_append, List.flatten_append, HP.out]; simp [tellL, List.append_assoc], by have := HPL.out; simp; omega, HZ.out⟩
                case measure => simp [intOf]; omega
            · rw [if_pos (by rfl)]
              go_simp
              refine hK.out _ _ (HQ2.out.below (below_alloc Z2 _)).cells (fun hHeld => ?_)
              clear hK K
              try simp only [Act.put, List.setIfInBounds_toArray, List.set_cons_zero, List.set_cons_succ]
              have t2 := below_alloc Z2 (.cells #[.int .u8 255, .int .u8 240] 5)
              have HQ3 := Lib.hid (HQ2.out.below t2)
              have RA3 := Lib.hid (RA2.out.below t2)
              have RB3 := Lib.hid (RB2.out.below t2)
              have RE3 := Lib.hid ((new2_own Z2 255 240).lower HQ2.out.old.size)
              obtain ⟨Z3, hZ3⟩ : ∃ Y, Y = Z2.alloc (.cells #[.int .u8 255, .int .u8 240] 5) := ⟨_, rfl⟩
              obtain ⟨gE, hgE⟩ : ∃ g, g = Z2.heap.size := ⟨_, rfl⟩
              rw [← hZ3] at HQ3 RA3 RB3 RE3 hHeld ⊢
              rw [← hgE] at RE3 ⊢
              clear t2 hZ3 hgE
              clear HQ2 RA2 RB2
              refine wpAnyH_ready (rs := [5]) (by kernel_rfl) (by simp) (AllReadyH.cons (o := { dst := some 66, op := Op.call { callee := Callee.value (Operand.func 13), args := #[Operand.tmp 65], argTypes := #[24] }, type := 24, pos := "ref.go:153", after := #[{ on := 4, ground := Ground.data }], guard := none }) rfl (fun K hK => ?_) AllReadyH.nil)
              rw [if_pos (by rfl)]
              go_simp
              (go_at_call 13; refine (rescape_any _ [o] Z3 RB3.out.row (by simp)).mono ?_; rintro e Z4 ⟨pC, rfl, hp, t3⟩)
              go_wp2_with fail
              refine hK.out _ _ (HQ3.out.below t3).cells (fun hHeld => ?_)
              clear hK K
              try simp only [Act.put, List.setIfInBounds_toArray, List.set_cons_zero, List.set_cons_succ]
              have HQ4 := Lib.hid (HQ3.out.below t3)
              have RA4 := Lib.hid (RA3.out.below t3)
              have RB4 := Lib.hid (RB3.out.below t3)
              have RE4 := Lib.hid (RE3.out.below t3)
              have RC4 := Lib.hid (hp.lower HQ3.out.old.size)
              clear hp t3
              clear HQ3 RA3 RB3 RE3
              refine wpAnyH_ready (rs := [8]) (by kernel_rfl) (by simp) (AllReadyH.cons (o := { dst := some 69, op := Op.call { callee := Callee.value (Operand.func 13), args := #[Operand.tmp 68], argTypes := #[24] }, type := 24, pos := "ref.go:153", after := #[{ on := 7, ground := Ground.data }, { on := 5, ground := Ground.chain }], guard := none }) rfl (fun K hK => ?_) AllReadyH.nil)
              rw [if_pos (by rfl)]
              go_simp
              (go_at_call 13; refine (rescape_any _ B Z4 (HU.out.below HQ4.out.old) (by have := HBL.out; omega)).mono ?_; rintro e Z5 ⟨pD, rfl, hp, t4⟩)
              go_wp2_with fail
              refine hK.out _ _ (HQ4.out.below t4).cells (fun hHeld => ?_)
              clear hK K
              try simp only [Act.put, List.setIfInBounds_toArray, List.set_cons_zero, List.set_cons_succ]
              have HQ5 := Lib.hid (HQ4.out.below t4)
              have RA5 := Lib.hid (RA4.out.below t4)
              have RB5 := Lib.hid (RB4.out.below t4)
              have RE5 := Lib.hid (RE4.out.below t4)
              have RC5 := Lib.hid (RC4.out.below t4)
              have RD5 := Lib.hid (hp.lower HQ4.out.old.size)
              clear hp t4
              clear HQ4 RA4 RB4 RE4 RC4
              refine wpAnyH_ready (rs := [10]) (by kernel_rfl) (by simp) (AllReadyH.cons (o := { dst := some 71, op := Op.buildSlice 65 4 #[(0, Operand.tmp 62), (1, Operand.tmp 66), (2, Operand.tmp 69), (3, Operand.tmp 70)], type := 65, pos := "ref.go:153", after := #[{ on := 1, ground := Ground.data }, { on := 5, ground := Ground.data }, { on := 8, ground := Ground.data }, { on := 9, ground := Ground.data }], guard := none }) rfl (fun K hK => ?_) AllReadyH.nil)
              obtain ⟨ca, cc, rfl⟩ := row_form RC5.out
              obtain ⟨da, dc, rfl⟩ := row_form RD5.out
              obtain ⟨cn, hcn⟩ : ∃ m, m = (escL [o]).length := ⟨_, rfl⟩
              obtain ⟨dn, hdn⟩ : ∃ m, m = (escL B).length := ⟨_, rfl⟩
              rw [← hcn] at RC5 ⊢
              rw [← hdn] at RD5 ⊢
              clear hcn hdn
              rw [if_pos (by rfl)]
              go_simp
              refine hK.out _ _ (HQ5.out.below (below_alloc Z5 _)).cells (fun hHeld => ?_)
              clear hK K
              try simp only [Act.put, List.setIfInBounds_toArray, List.set_cons_zero, List.set_cons_succ]
              have t5 := below_alloc Z5 (.cells #[.slice (some ⟨gA, 0, none⟩) 2 2, .slice ca cn cc, .slice da dn dc, .slice (some ⟨gE, 0, none⟩) 2 2] 24)
              have hcl := sl_cl Z5 #[.slice (some ⟨gA, 0, none⟩) 2 2, .slice ca cn cc, .slice da dn dc, .slice (some ⟨gE, 0, none⟩) 2 2] 24
              have HQ6 := Lib.hid (HQ5.out.below t5)
              have RA6 := Lib.hid (RA5.out.below t5)
              have RB6 := Lib.hid (RB5.out.below t5)
              have RE6 := Lib.hid (RE5.out.below t5)
              have RC6 := Lib.hid (RC5.out.below t5)
              have RD6 := Lib.hid (RD5.out.below t5)
              obtain ⟨Z6, hZ6⟩ : ∃ Y, Y = Z5.alloc (.cells #[.slice (some ⟨gA, 0, none⟩) 2 2, .slice ca cn cc, .slice da dn dc, .slice (some ⟨gE, 0, none⟩) 2 2] 24) := ⟨_, rfl⟩
              obtain ⟨gF, hgF⟩ : ∃ g, g = Z5.heap.size := ⟨_, rfl⟩
              rw [← hZ6, ← hgF] at hcl
              rw [← hZ6] at HQ6 RA6 RB6 RE6 RC6 RD6 hHeld ⊢
              rw [← hgF]
              have HCL := Lib.hid hcl
              clear t5 hZ6 hgF hcl
              clear HQ5 RA5 RB5 RE5 RC5 RD5
              refine wpAnyH_ready (rs := [11]) (by kernel_rfl) (by simp) (AllReadyH.cons (o := { dst := some 72, op := Op.call { callee := Callee.builtin Builtin.append, args := #[Operand.tmp 61, Operand.tmp 71], argTypes := #[65, 65] }, type := 65, pos := "ref.go:153", after := #[{ on := 0, ground := Ground.data }, { on := 10, ground := Ground.data }, { on := 8, ground := Ground.chain }], guard := none }) rfl (fun K hK => ?_) AllReadyH.nil)
              refine step_append_sl (Q := [([255, 250], .slice (some ⟨gA, 0, none⟩) 2 2), (escL [o], .slice ca cn cc), (escL B, .slice da dn dc), ([255, 240], .slice (some ⟨gE, 0, none⟩) 2 2)]) (by rfl) _ _ (by rfl) HQ6.out.own (four_own RA6.out RC6.out RD6.out RE6.out) HCL.out rfl (by rfl) (by rfl) (by have := HPL.out; simp; omega) HQ6.out.old.size ?_
              intro v9 W9 hown hg
              have HZ := Lib.hid (HQ6.out.grown hown hg)
              have HB9 := Lib.hid (box_grown HQ6.out hg)
              have HO9 := Lib.hid hown
              clear hown hg
              refine hK.out _ _ ?_ (fun hHeld => ?_)
              · exact box_cells HB9.out
              clear hK K
              try simp only [Act.put, List.setIfInBounds_toArray, List.set_cons_zero, List.set_cons_succ]
              clear HQ6 RA6 RB6 RE6 RC6 RD6
              refine wpAnyH_take (i := 12) (oi := { dst := some 3, op := Op.assign (Operand.tmp 72), type := 65, pos := "ref.go:153", after := #[{ on := 11, ground := Ground.data }, { on := 11, ground := Ground.chain }, { on := 0, ground := Ground.phase }, { on := 1, ground := Ground.phase }, { on := 2, ground := Ground.phase }, { on := 3, ground := Ground.phase }, { on := 4, ground := Ground.phase }, { on := 5, ground := Ground.phase }, { on := 6, ground := Ground.phase }, { on := 7, ground := Ground.phase }, { on := 8, ground := Ground.phase }, { on := 9, ground := Ground.phase }, { on := 10, ground := Ground.phase }, { on := 11, ground := Ground.phase }], guard := none }) (v := ?_) rfl (by kernel_rfl) (by kernel_rfl) (by kernel_rfl) (fun _ _ _ h => h) (Or.inl ⟨by rfl, ?_⟩) (by assumption) ?_
              rotate_left
              focus (intro w hSw; (try dsimp only at hSw); go_simp; try (with_reducible rfl))
              try simp only [Act.put, List.setIfInBounds_toArray, List.set_cons_zero, List.set_cons_succ]
              refine wpAnyH_done (by kernel_rfl) ?_ _
              go_wp2_with fail
              go_roundw
              case rel => exact ⟨k + 1, _, by omega, by go_num, HO9.out, by rw [HTK.out, HWR.out, List.map_append, List.flatten_append, HP.out]; simp [tellL, List.append_assoc], by have := HPL.out; simp; omega, HZ.out⟩
              case measure => simp [intOf]; omega
          · rw [if_pos (by rfl)]
            go_simp
            refine hK.out _ _ (HQ1.out.below (below_alloc Z1 _)).cells (fun hHeld => ?_)
            clear hK K
            try simp only [Act.put, List.setIfInBounds_toArray, List.set_cons_zero, List.set_cons_succ]
            have t1 := below_alloc Z1 (.cells #[.int .u8 255, .int .u8 240] 5)
            have HQ2 := Lib.hid (HQ1.out.below t1)
            have RA2 := Lib.hid (RA1.out.below t1)
            have RE2 := Lib.hid ((new2_own Z1 255 240).lower HQ1.out.old.size)
            obtain ⟨Z2, hZ2⟩ : ∃ Y, Y = Z1.alloc (.cells #[.int .u8 255, .int .u8 240] 5) := ⟨_, rfl⟩
            obtain ⟨gE, hgE⟩ : ∃ g, g = Z1.heap.size := ⟨_, rfl⟩
            rw [← hZ2] at HQ2 RA2 RE2 hHeld ⊢
            rw [← hgE] at RE2 ⊢
            clear t1 hZ2 hgE
            clear HQ1 RA1
            refine wpAnyH_ready (rs := [4]) (by kernel_rfl) (by simp) (AllReadyH.cons (o := { dst := some 65, op := Op.buildSlice 24 1 #[(0, Operand.tmp 64)], type := 24, pos := "ref.go:153", after := #[{ on := 3, ground := Ground.data }], guard := none }) rfl (fun K hK => ?_) AllReadyH.nil)
            rw [if_pos (by rfl)]
            go_simp
            refine hK.out _ _ (HQ2.out.below (below_alloc Z2 _)).cells (fun hHeld => ?_)
            clear hK K
            try simp only [Act.put, List.setIfInBounds_toArray, List.set_cons_zero, List.set_cons_succ]
            have t2 := below_alloc Z2 (.cells #[.int .u8 o] 5)
            have HQ3 := Lib.hid (HQ2.out.below t2)
            have RA3 := Lib.hid (RA2.out.below t2)
            have RE3 := Lib.hid (RE2.out.below t2)
            have RB3 := Lib.hid ((own1 Z2 o).lower HQ2.out.old.size)
            obtain ⟨Z3, hZ3⟩ : ∃ Y, Y = Z2.alloc (.cells #[.int .u8 o] 5) := ⟨_, rfl⟩
            obtain ⟨gB, hgB⟩ : ∃ g, g = Z2.heap.size := ⟨_, rfl⟩
            rw [← hZ3] at HQ3 RA3 RE3 RB3 hHeld ⊢
            rw [← hgB] at RB3 ⊢
            clear t2 hZ3 hgB
            clear HQ2 RA2 RE2
            refine wpAnyH_ready (rs := [5]) (by kernel_rfl) (by simp) (AllReadyH.cons (o := { dst := some 66, op := Op.call { callee := Callee.value (Operand.func 13), args := #[Operand.tmp 65], argTypes := #[24] }, type := 24, pos := "ref.go:153", after := #[{ on := 4, ground := Ground.data }], guard := none }) rfl (fun K hK => ?_) AllReadyH.nil)
            rw [if_pos (by rfl)]
            go_simp
            (go_at_call 13; refine (rescape_any _ [o] Z3 RB3.out.row (by simp)).mono ?_; rintro e Z4 ⟨pC, rfl, hp, t3⟩)
            go_wp2_with fail
            refine hK.out _ _ (HQ3.out.below t3).cells (fun hHeld => ?_)
            clear hK K
            try simp only [Act.put, List.setIfInBounds_toArray, List.set_cons_zero, List.set_cons_succ]
            have HQ4 := Lib.hid (HQ3.out.below t3)
            have RA4 := Lib.hid (RA3.out.below t3)
            have RE4 := Lib.hid (RE3.out.below t3)
            have RB4 := Lib.hid (RB3.out.below t3)
            have RC4 := Lib.hid (hp.lower HQ3.out.old.size)
            clear hp t3
            clear HQ3 RA3 RE3 RB3
            refine wpAnyH_ready (rs := [8]) (by kernel_rfl) (by simp) (AllReadyH.cons (o := { dst := some 69, op := Op.call { callee := Callee.value (Operand.func 13), args := #[Operand.tmp 68], argTypes := #[24] }, type := 24, pos := "ref.go:153", after := #[{ on := 7, ground := Ground.data }, { on := 5, ground := Ground.chain }], guard := none }) rfl (fun K hK => ?_) AllReadyH.nil)
            rw [if_pos (by rfl)]
            go_simp
            (go_at_call 13; refine (rescape_any _ B Z4 (HU.out.below HQ4.out.old) (by have := HBL.out; omega)).mono ?_; rintro e Z5 ⟨pD, rfl, hp, t4⟩)
            go_wp2_with fail
            refine hK.out _ _ (HQ4.out.below t4).cells (fun hHeld => ?_)
            clear hK K
            try simp only [Act.put, List.setIfInBounds_toArray, List.set_cons_zero, List.set_cons_succ]
            have HQ5 := Lib.hid (HQ4.out.below t4)
            have RA5 := Lib.hid (RA4.out.below t4)
            have RE5 := Lib.hid (RE4.out.below t4)
            have RB5 := Lib.hid (RB4.out.below t4)
            have RC5 := Lib.hid (RC4.out.below t4)
            have RD5 := Lib.hid (hp.lower HQ4.out.old.size)
            clear hp t4
            clear HQ4 RA4 RE4 RB4 RC4
            refine wpAnyH_ready (rs := [10]) (by kernel_rfl) (by simp) (AllReadyH.cons (o := { dst := some 71, op := Op.buildSlice 65 4 #[(0, Operand.tmp 62), (1, Operand.tmp 66), (2, Operand.tmp 69), (3, Operand.tmp 70)], type := 65, pos := "ref.go:153", after := #[{ on := 1, ground := Ground.data }, { on := 5, ground := Ground.data }, { on := 8, ground := Ground.data }, { on := 9, ground := Ground.data }], guard := none }) rfl (fun K hK => ?_) AllReadyH.nil)
            obtain ⟨ca, cc, rfl⟩ := row_form RC5.out
            obtain ⟨da, dc, rfl⟩ := row_form RD5.out
            obtain ⟨cn, hcn⟩ : ∃ m, m = (escL [o]).length := ⟨_, rfl⟩
            obtain ⟨dn, hdn⟩ : ∃ m, m = (escL B).length := ⟨_, rfl⟩
            rw [← hcn] at RC5 ⊢
            rw [← hdn] at RD5 ⊢
            clear hcn hdn
            rw [if_pos (by rfl)]
            go_simp
            refine hK.out _ _ (HQ5.out.below (below_alloc Z5 _)).cells (fun hHeld => ?_)
            clear hK K
            try simp only [Act.put, List.setIfInBounds_toArray, List.set_cons_zero, List.set_cons_succ]
            have t5 := below_alloc Z5 (.cells #[.slice (some ⟨gA, 0, none⟩) 2 2, .slice ca cn cc, .slice da dn dc, .slice (some ⟨gE, 0, none⟩) 2 2] 24)
            have hcl := sl_cl Z5 #[.slice (some ⟨gA, 0, none⟩) 2 2, .slice ca cn cc, .slice da dn dc, .slice (some ⟨gE, 0, none⟩) 2 2] 24
            have HQ6 := Lib.hid (HQ5.out.below t5)
            have RA6 := Lib.hid (RA5.out.below t5)
            have RE6 := Lib.hid (RE5.out.below t5)
            have RB6 := Lib.hid (RB5.out.below t5)
            have RC6 := Lib.hid (RC5.out.below t5)
            have RD6 := Lib.hid (RD5.out.below t5)
            obtain ⟨Z6, hZ6⟩ : ∃ Y, Y = Z5.alloc (.cells #[.slice (some ⟨gA, 0, none⟩) 2 2, .slice ca cn cc, .slice da dn dc, .slice (some ⟨gE, 0, none⟩) 2 2] 24) := ⟨_, rfl⟩
            obtain ⟨gF, hgF⟩ : ∃ g, g = Z5.heap.size := ⟨_, rfl⟩
            rw [← hZ6, ← hgF] at hcl
            rw [← hZ6] at HQ6 RA6 RE6 RB6 RC6 RD6 hHeld ⊢
            rw [← hgF]
            have HCL := Lib.hid hcl
            clear t5 hZ6 hgF hcl
            clear HQ5 RA5 RE5 RB5 RC5 RD5
            refine wpAnyH_ready (rs := [11]) (by kernel_rfl) (by simp) (AllReadyH.cons (o := { dst := some 72, op := Op.call { callee := Callee.builtin Builtin.append, args := #[Operand.tmp 61, Operand.tmp 71], argTypes := #[65, 65] }, type := 65, pos := "ref.go:153", after := #[{ on := 0, ground := Ground.data }, { on := 10, ground := Ground.data }, { on := 8, ground := Ground.chain }], guard := none }) rfl (fun K hK => ?_) AllReadyH.nil)
            refine step_append_sl (Q := [([255, 250], .slice (some ⟨gA, 0, none⟩) 2 2), (escL [o], .slice ca cn cc), (escL B, .slice da dn dc), ([255, 240], .slice (some ⟨gE, 0, none⟩) 2 2)]) (by rfl) _ _ (by rfl) HQ6.out.own (four_own RA6.out RC6.out RD6.out RE6.out) HCL.out rfl (by rfl) (by rfl) (by have := HPL.out; simp; omega) HQ6.out.old.size ?_
            intro v9 W9 hown hg
            have HZ := Lib.hid (HQ6.out.grown hown hg)
            have HB9 := Lib.hid (box_grown HQ6.out hg)
            have HO9 := Lib.hid hown
            clear hown hg
            refine hK.out _ _ ?_ (fun hHeld => ?_)
            · exact box_cells HB9.out
            clear hK K
            try simp only [Act.put, List.setIfInBounds_toArray, List.set_cons_zero, List.set_cons_succ]
            clear HQ6 RA6 RE6 RB6 RC6 RD6
            refine wpAnyH_take (i := 12) (oi := { dst := some 3, op := Op.assign (Operand.tmp 72), type := 65, pos := "ref.go:153", after := #[{ on := 11, ground := Ground.data }, { on := 11, ground := Ground.chain }, { on := 0, ground := Ground.phase }, { on := 1, ground := Ground.phase }, { on := 2, ground := Ground.phase }, { on := 3, ground := Ground.phase }, { on := 4, ground := Ground.phase }, { on := 5, ground := Ground.phase }, { on := 6, ground := Ground.phase }, { on := 7, ground := Ground.phase }, { on := 8, ground := Ground.phase }, { on := 9, ground := Ground.phase }, { on := 10, ground := Ground.phase }, { on := 11, ground := Ground.phase }], guard := none }) (v := ?_) rfl (by kernel_rfl) (by kernel_rfl) (by kernel_rfl) (fun _ _ _ h => h) (Or.inl ⟨by rfl, ?_⟩) (by assumption) ?_
            rotate_left
            focus (intro w hSw; (try dsimp only at hSw); go_simp; try (with_reducible rfl))
            try simp only [Act.put, List.setIfInBounds_toArray, List.set_cons_zero, List.set_cons_succ]
            refine wpAnyH_done (by kernel_rfl) ?_ _
            go_wp2_with fail
            go_roundw
            case rel => exact ⟨k + 1, _, by omega, by go_num, HO9.out, by rw [HTK.out, HWR.out, List.map_append, List.flatten_append, HP.out]; simp [tellL, List.append_assoc], by have := HPL.out; simp; omega, HZ.out⟩
            case measure => simp [intOf]; omega
        · rw [if_pos (by rfl)]
          go_simp
          refine hK.out _ _ (HQ0.out.below (below_alloc Z0 _)).cells (fun hHeld => ?_)
          clear hK K
          try simp only [Act.put, List.setIfInBounds_toArray, List.set_cons_zero, List.set_cons_succ]
          have t0 := below_alloc Z0 (.cells #[.int .u8 o] 5)
          have HQ1 := Lib.hid (HQ0.out.below t0)
          have RB1 := Lib.hid ((own1 Z0 o).lower HQ0.out.old.size)
          obtain ⟨Z1, hZ1⟩ : ∃ Y, Y = Z0.alloc (.cells #[.int .u8 o] 5) := ⟨_, rfl⟩
          obtain ⟨gB, hgB⟩ : ∃ g, g = Z0.heap.size := ⟨_, rfl⟩
          rw [← hZ1] at HQ1 RB1 hHeld ⊢
          rw [← hgB] at RB1 ⊢
          clear t0 hZ1 hgB
          clear HQ0 
          refine wpAnyH_ready (rs := [1, 5, 9]) (by kernel_rfl) (by simp) (AllReadyH.cons (o := { dst := some 62, op := Op.buildSlice 24 2 #[(0, Operand.const (Value.int IntKind.u8 255)), (1, Operand.const (Value.int IntKind.u8 250))], type := 24, pos := "ref.go:153", after := #[], guard := none }) rfl (fun K hK => ?_) (AllReadyH.cons (o := { dst := some 66, op := Op.call { callee := Callee.value (Operand.func 13), args := #[Operand.tmp 65], argTypes := #[24] }, type := 24, pos := "ref.go:153", after := #[{ on := 4, ground := Ground.data }], guard := none }) rfl (fun K hK => ?_) (AllReadyH.cons (o := { dst := some 70, op := Op.buildSlice 24 2 #[(0, Operand.const (Value.int IntKind.u8 255)), (1, Operand.const (Value.int IntKind.u8 240))], type := 24, pos := "ref.go:153", after := #[], guard := none }) rfl (fun K hK => ?_) AllReadyH.nil)))
          · rw [if_pos (by rfl)]
            go_simp
            refine hK.out _ _ (HQ1.out.below (below_alloc Z1 _)).cells (fun hHeld => ?_)
            clear hK K
            try simp only [Act.put, List.setIfInBounds_toArray, List.set_cons_zero, List.set_cons_succ]
            have t1 := below_alloc Z1 (.cells #[.int .u8 255, .int .u8 250] 5)
            have HQ2 := Lib.hid (HQ1.out.below t1)
            have RB2 := Lib.hid (RB1.out.below t1)
            have RA2 := Lib.hid ((new2_own Z1 255 250).lower HQ1.out.old.size)
            obtain ⟨Z2, hZ2⟩ : ∃ Y, Y = Z1.alloc (.cells #[.int .u8 255, .int .u8 250] 5) := ⟨_, rfl⟩
            obtain ⟨gA, hgA⟩ : ∃ g, g = Z1.heap.size := ⟨_, rfl⟩
            rw [← hZ2] at HQ2 RB2 RA2 hHeld ⊢
            rw [← hgA] at RA2 ⊢
            clear t1 hZ2 hgA
            clear HQ1 RB1
            refine wpAnyH_ready (rs := [5, 9]) (by kernel_rfl) (by simp) (AllReadyH.cons (o := { dst := some 66, op := Op.call { callee := Callee.value (Operand.func 13), args := #[Operand.tmp 65], argTypes := #[24] }, type := 24, pos := "ref.go:153", after := #[{ on := 4, ground := Ground.data }], guard := none }) rfl (fun K hK => ?_) (AllReadyH.cons (o := { dst := some 70, op := Op.buildSlice 24 2 #[(0, Operand.const (Value.int IntKind.u8 255)), (1, Operand.const (Value.int IntKind.u8 240))], type := 24, pos := "ref.go:153", after := #[], guard := none }) rfl (fun K hK => ?_) AllReadyH.nil))
            · rw [if_pos (by rfl)]
              go_simp
              (go_at_call 13; refine (rescape_any _ [o] Z2 RB2.out.row (by simp)).mono ?_; rintro e Z3 ⟨pC, rfl, hp, t2⟩)
              go_wp2_with fail
              refine hK.out _ _ (HQ2.out.below t2).cells (fun hHeld => ?_)
              clear hK K
              try simp only [Act.put, List.setIfInBounds_toArray, List.set_cons_zero, List.set_cons_succ]
              have HQ3 := Lib.hid (HQ2.out.below t2)
              have RB3 := Lib.hid (RB2.out.below t2)
              have RA3 := Lib.hid (RA2.out.below t2)
              have RC3 := Lib.hid (hp.lower HQ2.out.old.size)
              clear hp t2
              clear HQ2 RB2 RA2
              refine wpAnyH_ready (rs := [8, 9]) (by kernel_rfl) (by simp) (AllReadyH.cons (o := { dst := some 69, op := Op.call { callee := Callee.value (Operand.func 13), args := #[Operand.tmp 68], argTypes := #[24] }, type := 24, pos := "ref.go:153", after := #[{ on := 7, ground := Ground.data }, { on := 5, ground := Ground.chain }], guard := none }) rfl (fun K hK => ?_) (AllReadyH.cons (o := { dst := some 70, op := Op.buildSlice 24 2 #[(0, Operand.const (Value.int IntKind.u8 255)), (1, Operand.const (Value.int IntKind.u8 240))], type := 24, pos := "ref.go:153", after := #[], guard := none }) rfl (fun K hK => ?_) AllReadyH.nil))
              · rw [if_pos (by rfl)]
                go_simp
                (go_at_call 13; refine (rescape_any _ B Z3 (HU.out.below HQ3.out.old) (by have := HBL.out; omega)).mono ?_; rintro e Z4 ⟨pD, rfl, hp, t3⟩)
                go_wp2_with fail
                refine hK.out _ _ (HQ3.out.below t3).cells (fun hHeld => ?_)
                clear hK K
                try simp only [Act.put, List.setIfInBounds_toArray, List.set_cons_zero, List.set_cons_succ]
                have HQ4 := Lib.hid (HQ3.out.below t3)
                have RB4 := Lib.hid (RB3.out.below t3)
                have RA4 := Lib.hid (RA3.out.below t3)
                have RC4 := Lib.hid (RC3.out.below t3)
                have RD4 := Lib.hid (hp.lower HQ3.out.old.size)
                clear hp t3
                clear HQ3 RB3 RA3 RC3
                refine wpAnyH_ready (rs := [9]) (by kernel_rfl) (by simp) (AllReadyH.cons (o := { dst := some 70, op := Op.buildSlice 24 2 #[(0, Operand.const (Value.int IntKind.u8 255)), (1, Operand.const (Value.int IntKind.u8 240))], type := 24, pos := "ref.go:153", after := #[], guard := none }) rfl (fun K hK => ?_) AllReadyH.nil)
                rw [if_pos (by rfl)]
                go_simp
                refine hK.out _ _ (HQ4.out.below (below_alloc Z4 _)).cells (fun hHeld => ?_)
                clear hK K
                try simp only [Act.put, List.setIfInBounds_toArray, List.set_cons_zero, List.set_cons_succ]
                have t4 := below_alloc Z4 (.cells #[.int .u8 255, .int .u8 240] 5)
                have HQ5 := Lib.hid (HQ4.out.below t4)
                have RB5 := Lib.hid (RB4.out.below t4)
                have RA5 := Lib.hid (RA4.out.below t4)
                have RC5 := Lib.hid (RC4.out.below t4)
                have RD5 := Lib.hid (RD4.out.below t4)
                have RE5 := Lib.hid ((new2_own Z4 255 240).lower HQ4.out.old.size)
                obtain ⟨Z5, hZ5⟩ : ∃ Y, Y = Z4.alloc (.cells #[.int .u8 255, .int .u8 240] 5) := ⟨_, rfl⟩
                obtain ⟨gE, hgE⟩ : ∃ g, g = Z4.heap.size := ⟨_, rfl⟩
                rw [← hZ5] at HQ5 RB5 RA5 RC5 RD5 RE5 hHeld ⊢
                rw [← hgE] at RE5 ⊢
                clear t4 hZ5 hgE
                clear HQ4 RB4 RA4 RC4 RD4
                refine wpAnyH_ready (rs := [10]) (by kernel_rfl) (by simp) (AllReadyH.cons (o := { dst := some 71, op := Op.buildSlice 65 4 #[(0, Operand.tmp 62), (1, Operand.tmp 66), (2, Operand.tmp 69), (3, Operand.tmp 70)], type := 65, pos := "ref.go:153", after := #[{ on := 1, ground := Ground.data }, { on := 5, ground := Ground.data }, { on := 8, ground := Ground.data }, { on := 9, ground := Ground.data }], guard := none }) rfl (fun K hK => ?_) AllReadyH.nil)
                obtain ⟨ca, cc, rfl⟩ := row_form RC5.out
                obtain ⟨da, dc, rfl⟩ := row_form RD5.out
                obtain ⟨cn, hcn⟩ : ∃ m, m = (escL [o]).length := ⟨_, rfl⟩
                obtain ⟨dn, hdn⟩ : ∃ m, m = (escL B).length := ⟨_, rfl⟩
                rw [← hcn] at RC5 ⊢
                rw [← hdn] at RD5 ⊢
                clear hcn hdn
                rw [if_pos (by rfl)]
                go_simp
                refine hK.out _ _ (HQ5.out.below (below_alloc Z5 _)).cells (fun hHeld => ?_)
                clear hK K
                try simp only [Act.put, List.setIfInBounds_toArray, List.set_cons_zero, List.set_cons_succ]
                have t5 := below_alloc Z5 (.cells #[.slice (some ⟨gA, 0, none⟩) 2 2, .slice ca cn cc, .slice da dn dc, .slice (some ⟨gE, 0, none⟩) 2 2] 24)
                have hcl := sl_cl Z5 #[.slice (some ⟨gA, 0, none⟩) 2 2, .slice ca cn cc, .slice da dn dc, .slice (some ⟨gE, 0, none⟩) 2 2] 24
                have HQ6 := Lib.hid (HQ5.out.below t5)
                have RB6 := Lib.hid (RB5.out.below t5)
                have RA6 := Lib.hid (RA5.out.below t5)
                have RC6 := Lib.hid (RC5.out.below t5)
                have RD6 := Lib.hid (RD5.out.below t5)
                have RE6 := Lib.hid (RE5.out.below t5)
                obtain ⟨Z6, hZ6⟩ : ∃ Y, Y = Z5.alloc (.cells #[.slice (some ⟨gA, 0, none⟩) 2 2, .slice ca cn cc, .slice da dn dc, .slice (some ⟨gE, 0, none⟩) 2 2] 24) := ⟨_, rfl⟩
                obtain ⟨gF, hgF⟩ : ∃ g, g = Z5.heap.size := ⟨_, rfl⟩
                rw [← hZ6, ← hgF] at hcl
                rw [← hZ6] at HQ6 RB6 RA6 RC6 RD6 RE6 hHeld ⊢
                rw [← hgF]
                have HCL := Lib.hid hcl
                clear t5 hZ6 hgF hcl
                clear HQ5 RB5 RA5 RC5 RD5 RE5
                refine wpAnyH_ready (rs := [11]) (by kernel_rfl) (by simp) (AllReadyH.cons (o := { dst := some 72, op := Op.call { callee := Callee.builtin Builtin.append, args := #[Operand.tmp 61, Operand.tmp 71], argTypes := #[65, 65] }, type := 65, pos := "ref.go:153", after := #[{ on := 0, ground := Ground.data }, { on := 10, ground := Ground.data }, { on := 8, ground := Ground.chain }], guard := none }) rfl (fun K hK => ?_) AllReadyH.nil)
                refine step_append_sl (Q := [([255, 250], .slice (some ⟨gA, 0, none⟩) 2 2), (escL [o], .slice ca cn cc), (escL B, .slice da dn dc), ([255, 240], .slice (some ⟨gE, 0, none⟩) 2 2)]) (by rfl) _ _ (by rfl) HQ6.out.own (four_own RA6.out RC6.out RD6.out RE6.out) HCL.out rfl (by rfl) (by rfl) (by have := HPL.out; simp; omega) HQ6.out.old.size ?_
                intro v9 W9 hown hg
                have HZ := Lib.hid (HQ6.out.grown hown hg)
                have HB9 := Lib.hid (box_grown HQ6.out hg)
                have HO9 := Lib.hid hown
                clear hown hg
                refine hK.out _ _ ?_ (fun hHeld => ?_)
                · exact box_cells HB9.out
                clear hK K
                try simp only [Act.put, List.setIfInBounds_toArray, List.set_cons_zero, List.set_cons_succ]
                clear HQ6 RB6 RA6 RC6 RD6 RE6
                refine wpAnyH_take (i := 12) (oi := { dst := some 3, op := Op.assign (Operand.tmp 72), type := 65, pos := "ref.go:153", after := #[{ on := 11, ground := Ground.data }, { on := 11, ground := Ground.chain }, { on := 0, ground := Ground.phase }, { on := 1, ground := Ground.phase }, { on := 2, ground := Ground.phase }, { on := 3, ground := Ground.phase }, { on := 4, ground := Ground.phase }, { on := 5, ground := Ground.phase }, { on := 6, ground := Ground.phase }, { on := 7, ground := Ground.phase }, { on := 8, ground := Ground.phase }, { on := 9, ground := Ground.phase }, { on := 10, ground := Ground.phase }, { on := 11, ground := Ground.phase }], guard := none }) (v := ?_) rfl (by kernel_rfl) (by kernel_rfl) (by kernel_rfl) (fun _ _ _ h => h) (Or.inl ⟨by rfl, ?_⟩) (by assumption) ?_
                rotate_left
                focus (intro w hSw; (try dsimp only at hSw); go_simp; try (with_reducible rfl))
                try simp only [Act.put, List.setIfInBounds_toArray, List.set_cons_zero, List.set_cons_succ]
                refine wpAnyH_done (by kernel_rfl) ?_ _
                go_wp2_with fail
                go_roundw
                case rel => exact ⟨k + 1, _, by omega, by go_num, HO9.out, by rw [HTK.out, HWR.out, List.map_append, List.flatten_append, HP.out]; simp [tellL, List.append_assoc], by have := HPL.out; simp; omega, HZ.out⟩
                case measure => simp [intOf]; omega
              · rw [if_pos (by rfl)]
                go_simp
                refine hK.out _ _ (HQ3.out.below (below_alloc Z3 _)).cells (fun hHeld => ?_)
                clear hK K
                try simp only [Act.put, List.setIfInBounds_toArray, List.set_cons_zero, List.set_cons_succ]
                have t3 := below_alloc Z3 (.cells #[.int .u8 255, .int .u8 240] 5)
                have HQ4 := Lib.hid (HQ3.out.below t3)
                have RB4 := Lib.hid (RB3.out.below t3)
                have RA4 := Lib.hid (RA3.out.below t3)
                have RC4 := Lib.hid (RC3.out.below t3)
                have RE4 := Lib.hid ((new2_own Z3 255 240).lower HQ3.out.old.size)
                obtain ⟨Z4, hZ4⟩ : ∃ Y, Y = Z3.alloc (.cells #[.int .u8 255, .int .u8 240] 5) := ⟨_, rfl⟩
                obtain ⟨gE, hgE⟩ : ∃ g, g = Z3.heap.size := ⟨_, rfl⟩
                rw [← hZ4] at HQ4 RB4 RA4 RC4 RE4 hHeld ⊢
                rw [← hgE] at RE4 ⊢
                clear t3 hZ4 hgE
                clear HQ3 RB3 RA3 RC3
                refine wpAnyH_ready (rs := [8]) (by kernel_rfl) (by simp) (AllReadyH.cons (o := { dst := some 69, op := Op.call { callee := Callee.value (Operand.func 13), args := #[Operand.tmp 68], argTypes := #[24] }, type := 24, pos := "ref.go:153", after := #[{ on := 7, ground := Ground.data }, { on := 5, ground := Ground.chain }], guard := none }) rfl (fun K hK => ?_) AllReadyH.nil)
                rw [if_pos (by rfl)]
                go_simp
                (go_at_call 13; refine (rescape_any _ B Z4 (HU.out.below HQ4.out.old) (by have := HBL.out; omega)).mono ?_; rintro e Z5 ⟨pD, rfl, hp, t4⟩)
                go_wp2_with fail
                refine hK.out _ _ (HQ4.out.below t4).cells (fun hHeld => ?_)
                clear hK K
                try simp only [Act.put, List.setIfInBounds_toArray, List.set_cons_zero, List.set_cons_succ]
                have HQ5 := Lib.hid (HQ4.out.below t4)
                have RB5 := Lib.hid (RB4.out.below t4)
                have RA5 := Lib.hid (RA4.out.below t4)
                have RC5 := Lib.hid (RC4.out.below t4)
                have RE5 := Lib.hid (RE4.out.below t4)
                have RD5 := Lib.hid (hp.lower HQ4.out.old.size)
                clear hp t4
                clear HQ4 RB4 RA4 RC4 RE4
                refine wpAnyH_ready (rs := [10]) (by kernel_rfl) (by simp) (AllReadyH.cons (o := { dst := some 71, op := Op.buildSlice 65 4 #[(0, Operand.tmp 62), (1, Operand.tmp 66), (2, Operand.tmp 69), (3, Operand.tmp 70)], type := 65, pos := "ref.go:153", after := #[{ on := 1, ground := Ground.data }, { on := 5, ground := Ground.data }, { on := 8, ground := Ground.data }, { on := 9, ground := Ground.data }], guard := none }) rfl (fun K hK => ?_) AllReadyH.nil)
                obtain ⟨ca, cc, rfl⟩ := row_form RC5.out
                obtain ⟨da, dc, rfl⟩ := row_form RD5.out
                obtain ⟨cn, hcn⟩ : ∃ m, m = (escL [o]).length := ⟨_, rfl⟩
                obtain ⟨dn, hdn⟩ : ∃ m, m = (escL B).length := ⟨_, rfl⟩
                rw [← hcn] at RC5 ⊢
                rw [← hdn] at RD5 ⊢
                clear hcn hdn
                rw [if_pos (by rfl)]
                go_simp
                refine hK.out _ _ (HQ5.out.below (below_alloc Z5 _)).cells (fun hHeld => ?_)
                clear hK K
                try simp only [Act.put, List.setIfInBounds_toArray, List.set_cons_zero, List.set_cons_succ]
                have t5 := below_alloc Z5 (.cells #[.slice (some ⟨gA, 0, none⟩) 2 2, .slice ca cn cc, .slice da dn dc, .slice (some ⟨gE, 0, none⟩) 2 2] 24)
                have hcl := sl_cl Z5 #[.slice (some ⟨gA, 0, none⟩) 2 2, .slice ca cn cc, .slice da dn dc, .slice (some ⟨gE, 0, none⟩) 2 2] 24
                have HQ6 := Lib.hid (HQ5.out.below t5)
                have RB6 := Lib.hid (RB5.out.below t5)
                have RA6 := Lib.hid (RA5.out.below t5)
                have RC6 := Lib.hid (RC5.out.below t5)
                have RE6 := Lib.hid (RE5.out.below t5)
                have RD6 := Lib.hid (RD5.out.below t5)
                obtain ⟨Z6, hZ6⟩ : ∃ Y, Y = Z5.alloc (.cells #[.slice (some ⟨gA, 0, none⟩) 2 2, .slice ca cn cc, .slice da dn dc, .slice (some ⟨gE, 0, none⟩) 2 2] 24) := ⟨_, rfl⟩
                obtain ⟨gF, hgF⟩ : ∃ g, g = Z5.heap.size := ⟨_, rfl⟩
                rw [← hZ6, ← hgF] at hcl
                rw [← hZ6] at HQ6 RB6 RA6 RC6 RE6 RD6 hHeld ⊢
                rw [← hgF]
                have HCL := Lib.hid hcl
                clear t5 hZ6 hgF hcl
                clear HQ5 RB5 RA5 RC5 RE5 RD5
                refine wpAnyH_ready (rs := [11]) (by kernel_rfl) (by simp) (AllReadyH.cons (o := { dst := some 72, op := Op.call { callee := Callee.builtin Builtin.append, args := #[Operand.tmp 61, Operand.tmp 71], argTypes := #[65, 65] }, type := 65, pos := "ref.go:153", after := #[{ on := 0, ground := Ground.data }, { on := 10, ground := Ground.data }, { on := 8, ground := Ground.chain }], guard := none }) rfl (fun K hK => ?_) AllReadyH.nil)
                refine step_append_sl (Q := [([255, 250], .slice (some ⟨gA, 0, none⟩) 2 2), (escL [o], .slice ca cn cc), (escL B, .slice da dn dc), ([255, 240], .slice (some ⟨gE, 0, none⟩) 2 2)]) (by rfl) _ _ (by rfl) HQ6.out.own (four_own RA6.out RC6.out RD6.out RE6.out) HCL.out rfl (by rfl) (by rfl) (by have := HPL.out; simp; omega) HQ6.out.old.size ?_
                intro v9 W9 hown hg
                have HZ := Lib.hid (HQ6.out.grown hown hg)
                have HB9 := Lib.hid (box_grown HQ6.out hg)
                have HO9 := Lib.hid hown
                clear hown hg
                refine hK.out _ _ ?_ (fun hHeld => ?_)
                · exact box_cells HB9.out
                clear hK K
                try simp only [Act.put, List.setIfInBounds_toArray, List.set_cons_zero, List.set_cons_succ]
                clear HQ6 RB6 RA6 RC6 RE6 RD6
                refine wpAnyH_take (i := 12) (oi := { dst := some 3, op := Op.assign (Operand.tmp 72), type := 65, pos := "ref.go:153", after := #[{ on := 11, ground := Ground.data }, { on := 11, ground := Ground.chain }, { on := 0, ground := Ground.phase }, { on := 1, ground := Ground.phase }, { on := 2, ground := Ground.phase }, { on := 3, ground := Ground.phase }, { on := 4, ground := Ground.phase }, { on := 5, ground := Ground.phase }, { on := 6, ground := Ground.phase }, { on := 7, ground := Ground.phase }, { on := 8, ground := Ground.phase }, { on := 9, ground := Ground.phase }, { on := 10, ground := Ground.phase }, { on := 11, ground := Ground.phase }], guard := none }) (v := ?_) rfl (by kernel_rfl) (by kernel_rfl) (by kernel_rfl) (fun _ _ _ h => h) (Or.inl ⟨by rfl, ?_⟩) (by assumption) ?_
                rotate_left
                focus (intro w hSw; (try dsimp only at hSw); go_simp; try (with_reducible rfl))
                try simp only [Act.put, List.setIfInBounds_toArray, List.set_cons_zero, List.set_cons_succ]
                refine wpAnyH_done (by kernel_rfl) ?_ _
                go_wp2_with fail
                go_roundw
                case rel => exact ⟨k + 1, _, by omega, by go_num, HO9.out, by rw [HTK.out, HWR.out, List.map_append, List.flatten_append, HP.out]; simp [tellL, List.append_assoc], by have := HPL.out; simp; omega, HZ.out⟩
                case measure => simp [intOf]; omega
            · rw [if_pos (by rfl)]
              go_simp
              refine hK.out _ _ (HQ2.out.below (below_alloc Z2 _)).cells (fun hHeld => ?_)
              clear hK K
              try simp only [Act.put, List.setIfInBounds_toArray, List.set_cons_zero, List.set_cons_succ]
              have t2 := below_alloc Z2 (.cells #[.int .u8 255, .int .u8 240] 5)
              have HQ3 := Lib.hid (HQ2.out.below t2)
              have RB3 := Lib.hid (RB2.out.below t2)
              have RA3 := Lib.hid (RA2.out.below t2)
              have RE3 := Lib.hid ((new2_own Z2 255 240).lower HQ2.out.old.size)
              obtain ⟨Z3, hZ3⟩ : ∃ Y, Y = Z2.alloc (.cells #[.int .u8 255, .int .u8 240] 5) := ⟨_, rfl⟩
              obtain ⟨gE, hgE⟩ : ∃ g, g = Z2.heap.size := ⟨_, rfl⟩
              rw [← hZ3] at HQ3 RB3 RA3 RE3 hHeld ⊢
              rw [← hgE] at RE3 ⊢
              clear t2 hZ3 hgE
              clear HQ2 RB2 RA2
              refine wpAnyH_ready (rs := [5]) (by kernel_rfl) (by simp) (AllReadyH.cons (o := { dst := some 66, op := Op.call { callee := Callee.value (Operand.func 13), args := #[Operand.tmp 65], argTypes := #[24] }, type := 24, pos := "ref.go:153", after := #[{ on := 4, ground := Ground.data }], guard := none }) rfl (fun K hK => ?_) AllReadyH.nil)
              rw [if_pos (by rfl)]
              go_simp
              (go_at_call 13; refine (rescape_any _ [o] Z3 RB3.out.row (by simp)).mono ?_; rintro e Z4 ⟨pC, rfl, hp, t3⟩)
              go_wp2_with fail
              refine hK.out _ _ (HQ3.out.below t3).cells (fun hHeld => ?_)
              clear hK K
              try simp only [Act.put, List.setIfInBounds_toArray, List.set_cons_zero, List.set_cons_succ]
              have HQ4 := Lib.hid (HQ3.out.below t3)
              have RB4 := Lib.hid (RB3.out.below t3)
              have RA4 := Lib.hid (RA3.out.below t3)
              have RE4 := Lib.hid (RE3.out.below t3)
              have RC4 := Lib.hid (hp.lower HQ3.out.old.size)
              clear hp t3
              clear HQ3 RB3 RA3 RE3
              refine wpAnyH_ready (rs := [8]) (by kernel_rfl) (by simp) (AllReadyH.cons (o := { dst := some 69, op := Op.call { callee := Callee.value (Operand.func 13), args := #[Operand.tmp 68], argTypes := #[24] }, type := 24, pos := "ref.go:153", after := #[{ on := 7, ground := Ground.data }, { on := 5, ground := Ground.chain }], guard := none }) rfl (fun K hK => ?_) AllReadyH.nil)
              rw [if_pos (by rfl)]
              go_simp
              (go_at_call 13; refine (rescape_any _ B Z4 (HU.out.below HQ4.out.old) (by have := HBL.out; omega)).mono ?_; rintro e Z5 ⟨pD, rfl, hp, t4⟩)
              go_wp2_with fail
              refine hK.out _ _ (HQ4.out.below t4).cells (fun hHeld => ?_)
              clear hK K
              try simp only [Act.put, List.setIfInBounds_toArray, List.set_cons_zero, List.set_cons_succ]
              have HQ5 := Lib.hid (HQ4.out.below t4)
              have RB5 := Lib.hid (RB4.out.below t4)
              have RA5 := Lib.hid (RA4.out.below t4)
              have RE5 := Lib.hid (RE4.out.below t4)
              have RC5 := Lib.hid (RC4.out.below t4)
              have RD5 := Lib.hid (hp.lower HQ4.out.old.size)
              clear hp t4
              clear HQ4 RB4 RA4 RE4 RC4
              refine wpAnyH_ready (rs := [10]) (by kernel_rfl) (by simp) (AllReadyH.cons (o := { dst := some 71, op := Op.buildSlice 65 4 #[(0, Operand.tmp 62), (1, Operand.tmp 66), (2, Operand.tmp 69), (3, Operand.tmp 70)], type := 65, pos := "ref.go:153", after := #[{ on := 1, ground := Ground.data }, { on := 5, ground := Ground.data }, { on := 8, ground := Ground.data }, { on := 9, ground := Ground.data }], guard := none }) rfl (fun K hK => ?_) AllReadyH.nil)
              obtain ⟨ca, cc, rfl⟩ := row_form RC5.out
              obtain ⟨da, dc, rfl⟩ := row_form RD5.out
              obtain ⟨cn, hcn⟩ : ∃ m, m = (escL [o]).length := ⟨_, rfl⟩
              obtain ⟨dn, hdn⟩ : ∃ m, m = (escL B).length := ⟨_, rfl⟩
              rw [← hcn] at RC5 ⊢
              rw [← hdn] at RD5 ⊢
              clear hcn hdn
              rw [if_pos (by rfl)]
              go_simp
              refine hK.out _ _ (HQ5.out.below (below_alloc Z5 _)).cells (fun hHeld => ?_)
              clear hK K
              try simp only [Act.put, List.setIfInBounds_toArray, List.set_cons_zero, List.set_cons_succ]
              have t5 := below_alloc Z5 (.cells #[.slice (some ⟨gA, 0, none⟩) 2 2, .slice ca cn cc, .slice da dn dc, .slice (some ⟨gE, 0, none⟩) 2 2] 24)
              have hcl := sl_cl Z5 #[.slice (some ⟨gA, 0, none⟩) 2 2, .slice ca cn cc, .slice da dn dc, .slice (some ⟨gE, 0, none⟩) 2 2] 24
              have HQ6 := Lib.hid (HQ5.out.below t5)
              have RB6 := Lib.hid (RB5.out.below t5)
              have RA6 := Lib.hid (RA5.out.below t5)
              have RE6 := Lib.hid (RE5.out.below t5)
              have RC6 := Lib.hid (RC5.out.below t5)
              have RD6 := Lib.hid (RD5.out.below t5)
              obtain ⟨Z6, hZ6⟩ : ∃ Y, Y = Z5.alloc (.cells #[.slice (some ⟨gA, 0, none⟩) 2 2, .slice ca cn cc, .slice da dn dc, .slice (some ⟨gE, 0, none⟩) 2 2] 24) := ⟨_, rfl⟩
              obtain ⟨gF, hgF⟩ : ∃ g, g = Z5.heap.size := ⟨_, rfl⟩
              rw [← hZ6, ← hgF] at hcl
              rw [← hZ6] at HQ6 RB6 RA6 RE6 RC6 RD6 hHeld ⊢
              rw [← hgF]
              have HCL := Lib.hid hcl
              clear t5 hZ6 hgF hcl
              clear HQ5 RB5 RA5 RE5 RC5 RD5
              refine wpAnyH_ready (rs := [11]) (by kernel_rfl) (by simp) (AllReadyH.cons (o := { dst := some 72, op := Op.call { callee := Callee.builtin Builtin.append, args := #[Operand.tmp 61, Operand.tmp 71], argTypes := #[65, 65] }, type := 65, pos := "ref.go:153", after := #[{ on := 0, ground := Ground.data }, { on := 10, ground := Ground.data }, { on := 8, ground := Ground.chain }], guard := none }) rfl (fun K hK => ?_) AllReadyH.nil)
              refine step_append_sl (Q := [([255, 250], .slice (some ⟨gA, 0, none⟩) 2 2), (escL [o], .slice ca cn cc), (escL B, .slice da dn dc), ([255, 240], .slice (some ⟨gE, 0, none⟩) 2 2)]) (by rfl) _ _ (by rfl) HQ6.out.own (four_own RA6.out RC6.out RD6.out RE6.out) HCL.out rfl (by rfl) (by rfl) (by have := HPL.out; simp; omega) HQ6.out.old.size ?_
              intro v9 W9 hown hg
              have HZ := Lib.hid (HQ6.out.grown hown hg)
              have HB9 := Lib.hid (box_grown HQ6.out hg)
              have HO9 := Lib.hid hown
              clear hown hg
              refine hK.out _ _ ?_ (fun hHeld => ?_)
              · exact box_cells HB9.out
              clear hK K
              try simp only [Act.put, List.setIfInBounds_toArray, List.set_cons_zero, List.set_cons_succ]
              clear HQ6 RB6 RA6 RE6 RC6 RD6
              refine wpAnyH_take (i := 12) (oi := { dst := some 3, op := Op.assign (Operand.tmp 72), type := 65, pos := "ref.go:153", after := #[{ on := 11, ground := Ground.data }, { on := 11, ground := Ground.chain }, { on := 0, ground := Ground.phase }, { on := 1, ground := Ground.phase }, { on := 2, ground := Ground.phase }, { on := 3, ground := Ground.phase }, { on := 4, ground := Ground.phase }, { on := 5, ground := Ground.phase }, { on := 6, ground := Ground.phase }, { on := 7, ground := Ground.phase }, { on := 8, ground := Ground.phase }, { on := 9, ground := Ground.phase }, { on := 10, ground := Ground.phase }, { on := 11, ground := Ground.phase }], guard := none }) (v := ?_) rfl (by kernel_rfl) (by kernel_rfl) (by kernel_rfl) (fun _ _ _ h => h) (Or.inl ⟨by rfl, ?_⟩) (by assumption) ?_
              rotate_left
              focus (intro w hSw; (try dsimp only at hSw); go_simp; try (with_reducible rfl))
              try simp only [Act.put, List.setIfInBounds_toArray, List.set_cons_zero, List.set_cons_succ]
              refine wpAnyH_done (by kernel_rfl) ?_ _
              go_wp2_with fail
              go_roundw
              case rel => exact ⟨k + 1, _, by omega, by go_num, HO9.out, by rw [HTK.out, HWR.out, List.map_append, List.flatten_append, HP.out]; simp [tellL, List.append_assoc], by have := HPL.out; simp; omega, HZ.out⟩
              case measure => simp [intOf]; omega
          · rw [if_pos (by rfl)]
            go_simp
            (go_at_call 13; refine (rescape_any _ [o] Z1 RB1.out.row (by simp)).mono ?_; rintro e Z2 ⟨pC, rfl, hp, t1⟩)
            go_wp2_with fail
            refine hK.out _ _ (HQ1.out.below t1).cells (fun hHeld => ?_)
            clear hK K
            try simp only [Act.put, List.setIfInBounds_toArray, List.set_cons_zero, List.set_cons_succ]
            have HQ2 := Lib.hid (HQ1.out.below t1)
            have RB2 := Lib.hid (RB1.out.below t1)
            have RC2 := Lib.hid (hp.lower HQ1.out.old.size)
            clear hp t1
            clear HQ1 RB1
            refine wpAnyH_ready (rs := [1, 8, 9]) (by kernel_rfl) (by simp) (AllReadyH.cons (o := { dst := some 62, op := Op.buildSlice 24 2 #[(0, Operand.const (Value.int IntKind.u8 255)), (1, Operand.const (Value.int IntKind.u8 250))], type := 24, pos := "ref.go:153", after := #[], guard := none }) rfl (fun K hK => ?_) (AllReadyH.cons (o := { dst := some 69, op := Op.call { callee := Callee.value (Operand.func 13), args := #[Operand.tmp 68], argTypes := #[24] }, type := 24, pos := "ref.go:153", after := #[{ on := 7, ground := Ground.data }, { on := 5, ground := Ground.chain }], guard := none }) rfl (fun K hK => ?_) (AllReadyH.cons (o := { dst := some 70, op := Op.buildSlice 24 2 #[(0, Operand.const (Value.int IntKind.u8 255)), (1, Operand.const (Value.int IntKind.u8 240))], type := 24, pos := "ref.go:153", after := #[], guard := none }) rfl (fun K hK => ?_) AllReadyH.nil)))
            · rw [if_pos (by rfl)]
              go_simp
              refine hK.out _ _ (HQ2.out.below (below_alloc Z2 _)).cells (fun hHeld => ?_)
              clear hK K
              try simp only [Act.put, List.setIfInBounds_toArray, List.set_cons_zero, List.set_cons_succ]
              have t2 := below_alloc Z2 (.cells #[.int .u8 255, .int .u8 250] 5)
              have HQ3 := Lib.hid (HQ2.out.below t2)
              have RB3 := Lib.hid (RB2.out.below t2)
              have RC3 := Lib.hid (RC2.out.below t2)
              have RA3 := Lib.hid ((new2_own Z2 255 250).lower HQ2.out.old.size)
              obtain ⟨Z3, hZ3⟩ : ∃ Y, Y = Z2.alloc (.cells #[.int .u8 255, .int .u8 250] 5) := ⟨_, rfl⟩
              obtain ⟨gA, hgA⟩ : ∃ g, g = Z2.heap.size := ⟨_, rfl⟩
              rw [← hZ3] at HQ3 RB3 RC3 RA3 hHeld ⊢
              rw [← hgA] at RA3 ⊢
              clear t2 hZ3 hgA
              clear HQ2 RB2 RC2
              refine wpAnyH_ready (rs := [8, 9]) (by kernel_rfl) (by simp) (AllReadyH.cons (o := { dst := some 69, op := Op.call { callee := Callee.value (Operand.func 13), args := #[Operand.tmp 68], argTypes := #[24] }, type := 24, pos := "ref.go:153", after := #[{ on := 7, ground := Ground.data }, { on := 5, ground := Ground.chain }], guard := none }) rfl (fun K hK => ?_) (AllReadyH.cons (o := { dst := some 70, op := Op.buildSlice 24 2 #[(0, Operand.const (Value.int IntKind.u8 255)), (1, Operand.const (Value.int IntKind.u8 240))], type := 24, pos := "ref.go:153", after := #[], guard := none }) rfl (fun K hK => ?_) AllReadyH.nil))
              · rw [if_pos (by rfl)]
                go_simp
                (go_at_call 13; refine (rescape_any _ B Z3 (HU.out.below HQ3.out.old) (by have := HBL.out; omega)).mono ?_; rintro e Z4 ⟨pD, rfl, hp, t3⟩)
                go_wp2_with fail
                refine hK.out _ _ (HQ3.out.below t3).cells (fun hHeld => ?_)
                clear hK K
                try simp only [Act.put, List.setIfInBounds_toArray, List.set_cons_zero, List.set_cons_succ]
                have HQ4 := Lib.hid (HQ3.out.below t3)
                have RB4 := Lib.hid (RB3.out.below t3)
                have RC4 := Lib.hid (RC3.out.below t3)
                have RA4 := Lib.hid (RA3.out.below t3)
                have RD4 := Lib.hid (hp.lower HQ3.out.old.size)
                clear hp t3
                clear HQ3 RB3 RC3 RA3
                refine wpAnyH_ready (rs := [9]) (by kernel_rfl) (by simp) (AllReadyH.cons (o := { dst := some 70, op := Op.buildSlice 24 2 #[(0, Operand.const (Value.int IntKind.u8 255)), (1, Operand.const (Value.int IntKind.u8 240))], type := 24, pos := "ref.go:153", after := #[], guard := none }) rfl (fun K hK => ?_) AllReadyH.nil)
                rw [if_pos (by rfl)]
                go_simp
                refine hK.out _ _ (HQ4.out.below (below_alloc Z4 _)).cells (fun hHeld => ?_)
                clear hK K
                try simp only [Act.put, List.setIfInBounds_toArray, List.set_cons_zero, List.set_cons_succ]
                have t4 := below_alloc Z4 (.cells #[.int .u8 255, .int .u8 240] 5)
                have HQ5 := Lib.hid (HQ4.out.below t4)
                have RB5 := Lib.hid (RB4.out.below t4)
                have RC5 := Lib.hid (RC4.out.below t4)
                have RA5 := Lib.hid (RA4.out.below t4)
                have RD5 := Lib.hid (RD4.out.below t4)
                have RE5 := Lib.hid ((new2_own Z4 255 240).lower HQ4.out.old.size)
                obtain ⟨Z5, hZ5⟩ : ∃ Y, Y = Z4.alloc (.cells #[.int .u8 255, .int .u8 240] 5) := ⟨_, rfl⟩
                obtain ⟨gE, hgE⟩ : ∃ g, g = Z4.heap.size := ⟨_, rfl⟩
                rw [← hZ5] at HQ5 RB5 RC5 RA5 RD5 RE5 hHeld ⊢
                rw [← hgE] at RE5 ⊢
                clear t4 hZ5 hgE
                clear HQ4 RB4 RC4 RA4 RD4
                refine wpAnyH_ready (rs := [10]) (by kernel_rfl) (by simp) (AllReadyH.cons (o := { dst := some 71, op := Op.buildSlice 65 4 #[(0, Operand.tmp 62), (1, Operand.tmp 66), (2, Operand.tmp 69), (3, Operand.tmp 70)], type := 65, pos := "ref.go:153", after := #[{ on := 1, ground := Ground.data }, { on := 5, ground := Ground.data }, { on := 8, ground := Ground.data }, { on := 9, ground := Ground.data }], guard := none }) rfl (fun K hK => ?_) AllReadyH.nil)
                obtain ⟨ca, cc, rfl⟩ := row_form RC5.out
                obtain ⟨da, dc, rfl⟩ := row_form RD5.out
                obtain ⟨cn, hcn⟩ : ∃ m, m = (escL [o]).length := ⟨_, rfl⟩
                obtain ⟨dn, hdn⟩ : ∃ m, m = (escL B).length := ⟨_, rfl⟩
                rw [← hcn] at RC5 ⊢
                rw [← hdn] at RD5 ⊢
                clear hcn hdn
                rw [if_pos (by rfl)]
                go_simp
                refine hK.out _ _ (HQ5.out.below (below_alloc Z5 _)).cells (fun hHeld => ?_)
                clear hK K
                try simp only [Act.put, List.setIfInBounds_toArray, List.set_cons_zero, List.set_cons_succ]
                have t5 := below_alloc Z5 (.cells #[.slice (some ⟨gA, 0, none⟩) 2 2, .slice ca cn cc, .slice da dn dc, .slice (some ⟨gE, 0, none⟩) 2 2] 24)
                have hcl := sl_cl Z5 #[.slice (some ⟨gA, 0, none⟩) 2 2, .slice ca cn cc, .slice da dn dc, .slice (some ⟨gE, 0, none⟩) 2 2] 24
                have HQ6 := Lib.hid (HQ5.out.below t5)
                have RB6 := Lib.hid (RB5.out.below t5)
                have RC6 := Lib.hid (RC5.out.below t5)
                have RA6 := Lib.hid (RA5.out.below t5)
                have RD6 := Lib.hid (RD5.out.below t5)
                have RE6 := Lib.hid (RE5.out.below t5)
                obtain ⟨Z6, hZ6⟩ : ∃ Y, Y = Z5.alloc (.cells #[.slice (some ⟨gA, 0, none⟩) 2 2, .slice ca cn cc, .slice da dn dc, .slice (some ⟨gE, 0, none⟩) 2 2] 24) := ⟨_, rfl⟩
                obtain ⟨gF, hgF⟩ : ∃ g, g = Z5.heap.size := ⟨_, rfl⟩
                rw [← hZ6, ← hgF] at hcl
                rw [← hZ6] at HQ6 RB6 RC6 RA6 RD6 RE6 hHeld ⊢
                rw [← hgF]
                have HCL := Lib.hid hcl
                clear t5 hZ6 hgF hcl
                clear HQ5 RB5 RC5 RA5 RD5 RE5
                refine wpAnyH_ready (rs := [11]) (by kernel_rfl) (by simp) (AllReadyH.cons (o := { dst := some 72, op := Op.call { callee := Callee.builtin Builtin.append, args := #[Operand.tmp 61, Operand.tmp 71], argTypes := #[65, 65] }, type := 65, pos := "ref.go:153", after := #[{ on := 0, ground := Ground.data }, { on := 10, ground := Ground.data }, { on := 8, ground := Ground.chain }], guard := none }) rfl (fun K hK => ?_) AllReadyH.nil)
                refine step_append_sl (Q := [([255, 250], .slice (some ⟨gA, 0, none⟩) 2 2), (escL [o], .slice ca cn cc), (escL B, .slice da dn dc), ([255, 240], .slice (some ⟨gE, 0, none⟩) 2 2)]) (by rfl) _ _ (by rfl) HQ6.out.own (four_own RA6.out RC6.out RD6.out RE6.out) HCL.out rfl (by rfl) (by rfl) (by have := HPL.out; simp; omega) HQ6.out.old.size ?_
                intro v9 W9 hown hg
                have HZ := Lib.hid (HQ6.out.grown hown hg)
                have HB9 := Lib.hid (box_grown HQ6.out hg)
                have HO9 := Lib.hid hown
                clear hown hg
                refine hK.out _ _ ?_ (fun hHeld => ?_)
                · exact box_cells HB9.out
                clear hK K
                try simp only [Act.put, List.setIfInBounds_toArray, List.set_cons_zero, List.set_cons_succ]
                clear HQ6 RB6 RC6 RA6 RD6 RE6
                refine wpAnyH_take (i := 12) (oi := { dst := some 3, op := Op.assign (Operand.tmp 72), type := 65, pos := "ref.go:153", after := #[{ on := 11, ground := Ground.data }, { on := 11, ground := Ground.chain }, { on := 0, ground := Ground.phase }, { on := 1, ground := Ground.phase }, { on := 2, ground := Ground.phase }, { on := 3, ground := Ground.phase }, { on := 4, ground := Ground.phase }, { on := 5, ground := Ground.phase }, { on := 6, ground := Ground.phase }, { on := 7, ground := Ground.phase }, { on := 8, ground := Ground.phase }, { on := 9, ground := Ground.phase }, { on := 10, ground := Ground.phase }, { on := 11, ground := Ground.phase }], guard := none }) (v := ?_) rfl (by kernel_rfl) (by kernel_rfl) (by kernel_rfl) (fun _ _ _ h => h) (Or.inl ⟨by rfl, ?_⟩) (by assumption) ?_
                rotate_left
                focus (intro w hSw; (try dsimp only at hSw); go_simp; try (with_reducible rfl))
                try simp only [Act.put, List.setIfInBounds_toArray, List.set_cons_zero, List.set_cons_succ]
                refine wpAnyH_done (by kernel_rfl) ?_ _
                go_wp2_with fail
                go_roundw
                case rel => exact ⟨k + 1, _, by omega, by go_num, HO9.out, by rw [HTK.out, HWR.out, List.map_append, List.flatten_append, HP.out]; simp [tellL, List.append_assoc], by have := HPL.out; simp; omega, HZ.out⟩
                case measure => simp [intOf]; omega
              · rw [if_pos (by rfl)]
                go_simp
                refine hK.out _ _ (HQ3.out.below (below_alloc Z3 _)).cells (fun hHeld => ?_)
                clear hK K
                try simp only [Act.put, List.setIfInBounds_toArray, List.set_cons_zero, List.set_cons_succ]
                have t3 := below_alloc Z3 (.cells #[.int .u8 255, .int .u8 240] 5)
                have HQ4 := Lib.hid (HQ3.out.below t3)
                have RB4 := Lib.hid (RB3.out.below t3)
                have RC4 := Lib.hid (RC3.out.below t3)
                have RA4 := Lib.hid (RA3.out.below t3)
                have RE4 := Lib.hid ((new2_own Z3 255 240).lower HQ3.out.old.size)
                obtain ⟨Z4, hZ4⟩ : ∃ Y, Y = Z3.alloc (.cells #[.int .u8 255, .int .u8 240] 5) := ⟨_, rfl⟩
                obtain ⟨gE, hgE⟩ : ∃ g, g = Z3.heap.size := ⟨_, rfl⟩
                rw [← hZ4] at HQ4 RB4 RC4 RA4 RE4 hHeld ⊢
                rw [← hgE] at RE4 ⊢
                clear t3 hZ4 hgE
                clear HQ3 RB3 RC3 RA3
                refine wpAnyH_ready (rs := [8]) (by kernel_rfl) (by simp) (AllReadyH.cons (o := { dst := some 69, op := Op.call { callee := Callee.value (Operand.func 13), args := #[Operand.tmp 68], argTypes := #[24] }, type := 24, pos := "ref.go:153", after := #[{ on := 7, ground := Ground.data }, { on := 5, ground := Ground.chain }], guard := none }) rfl (fun K hK => ?_) AllReadyH.nil)
                rw [if_pos (by rfl)]
                go_simp
                (go_at_call 13; refine (rescape_any _ B Z4 (HU.out.below HQ4.out.old) (by have := HBL.out; omega)).mono ?_; rintro e Z5 ⟨pD, rfl, hp, t4⟩)
                go_wp2_with fail
                refine hK.out _ _ (HQ4.out.below t4).cells (fun hHeld => ?_)
                clear hK K
                try simp only [Act.put, List.setIfInBounds_toArray, List.set_cons_zero, List.set_cons_succ]
                have HQ5 := Lib.hid (HQ4.out.below t4)
                have RB5 := Lib.hid (RB4.out.below t4)
                have RC5 := Lib.hid (RC4.out.below t4)
                have RA5 := Lib.hid (RA4.out.below t4)
                have RE5 := Lib.hid (RE4.out.below t4)
                have RD5 := Lib.hid (hp.lower HQ4.out.old.size)
                clear hp t4
                clear HQ4 RB4 RC4 RA4 RE4
                refine wpAnyH_ready (rs := [10]) (by kernel_rfl) (by simp) (AllReadyH.cons (o := { dst := some 71, op := Op.buildSlice 65 4 #[(0, Operand.tmp 62), (1, Operand.tmp 66), (2, Operand.tmp 69), (3, Operand.tmp 70)], type := 65, pos := "ref.go:153", after := #[{ on := 1, ground := Ground.data }, { on := 5, ground := Ground.data }, { on := 8, ground := Ground.data }, { on := 9, ground := Ground.data }], guard := none }) rfl (fun K hK => ?_) AllReadyH.nil)
                obtain ⟨ca, cc, rfl⟩ := row_form RC5.out
                obtain ⟨da, dc, rfl⟩ := row_form RD5.out
                obtain ⟨cn, hcn⟩ : ∃ m, m = (escL [o]).length := ⟨_, rfl⟩
                obtain ⟨dn, hdn⟩ : ∃ m, m = (escL B).length := ⟨_, rfl⟩
                rw [← hcn] at RC5 ⊢
                rw [← hdn] at RD5 ⊢
                clear hcn hdn
                rw [if_pos (by rfl)]
                go_simp
                refine hK.out _ _ (HQ5.out.below (below_alloc Z5 _)).cells (fun hHeld => ?_)
                clear hK K
                try simp only [Act.put, List.setIfInBounds_toArray, List.set_cons_zero, List.set_cons_succ]
                have t5 := below_alloc Z5 (.cells #[.slice (some ⟨gA, 0, none⟩) 2 2, .slice ca cn cc, .slice da dn dc, .slice (some ⟨gE, 0, none⟩) 2 2] 24)
                have hcl := sl_cl Z5 #[.slice (some ⟨gA, 0, none⟩) 2 2, .slice ca cn cc, .slice da dn dc, .slice (some ⟨gE, 0, none⟩) 2 2] 24
                have HQ6 := Lib.hid (HQ5.out.below t5)
                have RB6 := Lib.hid (RB5.out.below t5)
                have RC6 := Lib.hid (RC5.out.below t5)
                have RA6 := Lib.hid (RA5.out.below t5)
                have RE6 := Lib.hid (RE5.out.below t5)
                have RD6 := Lib.hid (RD5.out.below t5)
                obtain ⟨Z6, hZ6⟩ : ∃ Y, Y = Z5.alloc (.cells #[.slice (some ⟨gA, 0, none⟩) 2 2, .slice ca cn cc, .slice da dn dc, .slice (some ⟨gE, 0, none⟩) 2 2] 24) := ⟨_, rfl⟩
                obtain ⟨gF, hgF⟩ : ∃ g, g = Z5.heap.size := ⟨_, rfl⟩
                rw [← hZ6, ← hgF] at hcl
                rw [← hZ6] at HQ6 RB6 RC6 RA6 RE6 RD6 hHeld ⊢
                rw [← hgF]
                have HCL := Lib.hid hcl
                clear t5 hZ6 hgF hcl
                clear HQ5 RB5 RC5 RA5 RE5 RD5
                refine wpAnyH_ready (rs := [11]) (by kernel_rfl) (by simp) (AllReadyH.cons (o := { dst := some 72, op := Op.call { callee := Callee.builtin Builtin.append, args := #[Operand.tmp 61, Operand.tmp 71], argTypes := #[65, 65] }, type := 65, pos := "ref.go:153", after := #[{ on := 0, ground := Ground.data }, { on := 10, ground := Ground.data }, { on := 8, ground := Ground.chain }], guard := none }) rfl (fun K hK => ?_) AllReadyH.nil)
                refine step_append_sl (Q := [([255, 250], .slice (some ⟨gA, 0, none⟩) 2 2), (escL [o], .slice ca cn cc), (escL B, .slice da dn dc), ([255, 240], .slice (some ⟨gE, 0, none⟩) 2 2)]) (by rfl) _ _ (by rfl) HQ6.out.own (four_own RA6.out RC6.out RD6.out RE6.out) HCL.out rfl (by rfl) (by rfl) (by have := HPL.out; simp; omega) HQ6.out.old.size ?_
                intro v9 W9 hown hg
                have HZ := Lib.hid (HQ6.out.grown hown hg)
                have HB9 := Lib.hid (box_grown HQ6.out hg)
                have HO9 := Lib.hid hown
                clear hown hg
                refine hK.out _ _ ?_ (fun hHeld => ?_)
                · exact box_cells HB9.out
                clear hK K
                try simp only [Act.put, List.setIfInBounds_toArray, List.set_cons_zero, List.set_cons_succ]
                clear HQ6 RB6 RC6 RA6 RE6 RD6
                refine wpAnyH_take (i := 12) (oi := { dst := some 3, op := Op.assign (Operand.tmp 72), type := 65, pos := "ref.go:153", after := #[{ on := 11, ground := Ground.data }, { on := 11, ground := Ground.chain }, { on := 0, ground := Ground.phase }, { on := 1, ground := Ground.phase }, { on := 2, ground := Ground.phase }, { on := 3, ground := Ground.phase }, { on := 4, ground := Ground.phase }, { on := 5, ground := Ground.phase }, { on := 6, ground := Ground.phase }, { on := 7, ground := Ground.phase }, { on := 8, ground := Ground.phase }, { on := 9, ground := Ground.phase }, { on := 10, ground := Ground.phase }, { on := 11, ground := Ground.phase }], guard := none }) (v := ?_) rfl (by kernel_rfl) (by kernel_rfl) (by kernel_rfl) (fun _ _ _ h => h) (Or.inl ⟨by rfl, ?_⟩) (by assumption) ?_
                rotate_left
                focus (intro w hSw; (try dsimp only at hSw); go_simp; try (with_reducible rfl))
                try simp only [Act.put, List.setIfInBounds_toArray, List.set_cons_zero, List.set_cons_succ]
                refine wpAnyH_done (by kernel_rfl) ?_ _
                go_wp2_with fail
                go_roundw
                case rel => exact ⟨k + 1, _, by omega, by go_num, HO9.out, by rw [HTK.out, HWR.out, List.map_append, List.flatten_append, HP.out]; simp [tellL, List.append_assoc], by have := HPL.out; simp; omega, HZ.out⟩
                case measure => simp [intOf]; omega
            · rw [if_pos (by rfl)]
              go_simp
              (go_at_call 13; refine (rescape_any _ B Z2 (HU.out.below HQ2.out.old) (by have := HBL.out; omega)).mono ?_; rintro e Z3 ⟨pD, rfl, hp, t2⟩)
              go_wp2_with fail
              refine hK.out _ _ (HQ2.out.below t2).cells (fun hHeld => ?_)
              clear hK K
              try simp only [Act.put, List.setIfInBounds_toArray, List.set_cons_zero, List.set_cons_succ]
              have HQ3 := Lib.hid (HQ2.out.below t2)
              have RB3 := Lib.hid (RB2.out.below t2)
              have RC3 := Lib.hid (RC2.out.below t2)
              have RD3 := Lib.hid (hp.lower HQ2.out.old.size)
              clear hp t2
              clear HQ2 RB2 RC2
              refine wpAnyH_ready (rs := [1, 9]) (by kernel_rfl) (by simp) (AllReadyH.cons (o := { dst := some 62, op := Op.buildSlice 24 2 #[(0, Operand.const (Value.int IntKind.u8 255)), (1, Operand.const (Value.int IntKind.u8 250))], type := 24, pos := "ref.go:153", after := #[], guard := none }) rfl (fun K hK => ?_) (AllReadyH.cons (o := { dst := some 70, op := Op.buildSlice 24 2 #[(0, Operand.const (Value.int IntKind.u8 255)), (1, Operand.const (Value.int IntKind.u8 240))], type := 24, pos := "ref.go:153", after := #[], guard := none }) rfl (fun K hK => ?_) AllReadyH.nil))
              · rw [if_pos (by rfl)]
                go_simp
                refine hK.out _ _ (HQ3.out.below (below_alloc Z3 _)).cells (fun hHeld => ?_)
                clear hK K
                try simp only [Act.put, List.setIfInBounds_toArray, List.set_cons_zero, List.set_cons_succ]
                have t3 := below_alloc Z3 (.cells #[.int .u8 255, .int .u8 250] 5)
                have HQ4 := Lib.hid (HQ3.out.below t3)
                have RB4 := Lib.hid (RB3.out.below t3)
                have RC4 := Lib.hid (RC3.out.below t3)
                have RD4 := Lib.hid (RD3.out.below t3)
                have RA4 := Lib.hid ((new2_own Z3 255 250).lower HQ3.out.old.size)
                obtain ⟨Z4, hZ4⟩ : ∃ Y, Y = Z3.alloc (.cells #[.int .u8 255, .int .u8 250] 5) := ⟨_, rfl⟩
                obtain ⟨gA, hgA⟩ : ∃ g, g = Z3.heap.size := ⟨_, rfl⟩
                rw [← hZ4] at HQ4 RB4 RC4 RD4 RA4 hHeld ⊢
                rw [← hgA] at RA4 ⊢
                clear t3 hZ4 hgA
                clear HQ3 RB3 RC3 RD3
                refine wpAnyH_ready (rs := [9]) (by kernel_rfl) (by simp) (AllReadyH.cons (o := { dst := some 70, op := Op.buildSlice 24 2 #[(0, Operand.const (Value.int IntKind.u8 255)), (1, Operand.const (Value.int IntKind.u8 240))], type := 24, pos := "ref.go:153", after := #[], guard := none }) rfl (fun K hK => ?_) AllReadyH.nil)
                rw [if_pos (by rfl)]
                go_simp
                refine hK.out _ _ (HQ4.out.below (below_alloc Z4 _)).cells (fun hHeld => ?_)
                clear hK K
                try simp only [Act.put, List.setIfInBounds_toArray, List.set_cons_zero, List.set_cons_succ]
                have t4 := below_alloc Z4 (.cells #[.int .u8 255, .int .u8 240] 5)
                have HQ5 := Lib.hid (HQ4.out.below t4)
                have RB5 := Lib.hid (RB4.out.below t4)
                have RC5 := Lib.hid (RC4.out.below t4)
                have RD5 := Lib.hid (RD4.out.below t4)
                have RA5 := Lib.hid (RA4.out.below t4)
                have RE5 := Lib.hid ((new2_own Z4 255 240).lower HQ4.out.old.size)
                obtain ⟨Z5, hZ5⟩ : ∃ Y, Y = Z4.alloc (.cells #[.int .u8 255, .int .u8 240] 5) := ⟨_, rfl⟩
                obtain ⟨gE, hgE⟩ : ∃ g, g = Z4.heap.size := ⟨_, rfl⟩
                rw [← hZ5] at HQ5 RB5 RC5 RD5 RA5 RE5 hHeld ⊢
                rw [← hgE] at RE5 ⊢
                clear t4 hZ5 hgE
                clear HQ4 RB4 RC4 RD4 RA4
                refine wpAnyH_ready (rs := [10]) (by kernel_rfl) (by simp) (AllReadyH.cons (o := { dst := some 71, op := Op.buildSlice 65 4 #[(0, Operand.tmp 62), (1, Operand.tmp 66), (2, Operand.tmp 69), (3, Operand.tmp 70)], type := 65, pos := "ref.go:153", after := #[{ on := 1, ground := Ground.data }, { on := 5, ground := Ground.data }, { on := 8, ground := Ground.data }, { on := 9, ground := Ground.data }], guard := none }) rfl (fun K hK => ?_) AllReadyH.nil)
                obtain ⟨ca, cc, rfl⟩ := row_form RC5.out
                obtain ⟨da, dc, rfl⟩ := row_form RD5.out
                obtain ⟨cn, hcn⟩ : ∃ m, m = (escL [o]).length := ⟨_, rfl⟩
                obtain ⟨dn, hdn⟩ : ∃ m, m = (escL B).length := ⟨_, rfl⟩
                rw [← hcn] at RC5 ⊢
                rw [← hdn] at RD5 ⊢
                clear hcn hdn
                rw [if_pos (by rfl)]
                go_simp
                refine hK.out _ _ (HQ5.out.below (below_alloc Z5 _)).cells (fun hHeld => ?_)
                clear hK K
                try simp only [Act.put, List.setIfInBounds_toArray, List.set_cons_zero, List.set_cons_succ]
                have t5 := below_alloc Z5 (.cells #[.slice (some ⟨gA, 0, none⟩) 2 2, .slice ca cn cc, .slice da dn dc, .slice (some ⟨gE, 0, none⟩) 2 2] 24)
                have hcl := sl_cl Z5 #[.slice (some ⟨gA, 0, none⟩) 2 2, .slice ca cn cc, .slice da dn dc, .slice (some ⟨gE, 0, none⟩) 2 2] 24
                have HQ6 := Lib.hid (HQ5.out.below t5)
                have RB6 := Lib.hid (RB5.out.below t5)
                have RC6 := Lib.hid (RC5.out.below t5)
                have RD6 := Lib.hid (RD5.out.below t5)
                have RA6 := Lib.hid (RA5.out.below t5)
                have RE6 := Lib.hid (RE5.out.below t5)
                obtain ⟨Z6, hZ6⟩ : ∃ Y, Y = Z5.alloc (.cells #[.slice (some ⟨gA, 0, none⟩) 2 2, .slice ca cn cc, .slice da dn dc, .slice (some ⟨gE, 0, none⟩) 2 2] 24) := ⟨_, rfl⟩
                obtain ⟨gF, hgF⟩ : ∃ g, g = Z5.heap.size := ⟨_, rfl⟩
                rw [← hZ6, ← hgF] at hcl
                rw [← hZ6] at HQ6 RB6 RC6 RD6 RA6 RE6 hHeld ⊢
                rw [← hgF]
                have HCL := Lib.hid hcl
                clear t5 hZ6 hgF hcl
                clear HQ5 RB5 RC5 RD5 RA5 RE5
                refine wpAnyH_ready (rs := [11]) (by kernel_rfl) (by simp) (AllReadyH.cons (o := { dst := some 72, op := Op.call { callee := Callee.builtin Builtin.append, args := #[Operand.tmp 61, Operand.tmp 71], argTypes := #[65, 65] }, type := 65, pos := "ref.go:153", after := #[{ on := 0, ground := Ground.data }, { on := 10, ground := Ground.data }, { on := 8, ground := Ground.chain }], guard := none }) rfl (fun K hK => ?_) AllReadyH.nil)
                refine step_append_sl (Q := [([255, 250], .slice (some ⟨gA, 0, none⟩) 2 2), (escL [o], .slice ca cn cc), (escL B, .slice da dn dc), ([255, 240], .slice (some ⟨gE, 0, none⟩) 2 2)]) (by rfl) _ _ (by rfl) HQ6.out.own (four_own RA6.out RC6.out RD6.out RE6.out) HCL.out rfl (by rfl) (by rfl) (by have := HPL.out; simp; omega) HQ6.out.old.size ?_
                intro v9 W9 hown hg
                have HZ := Lib.hid (HQ6.out.grown hown hg)
                have HB9 := Lib.hid (box_grown HQ6.out hg)
                have HO9 := Lib.hid hown
                clear hown hg
                refine hK.out _ _ ?_ (fun hHeld => ?_)
                · exact box_cells HB9.out
                clear hK K
                try simp only [Act.put, List.setIfInBounds_toArray, List.set_cons_zero, List.set_cons_succ]
                clear HQ6 RB6 RC6 RD6 RA6 RE6
                refine wpAnyH_take (i := 12) (oi := { dst := some 3, op := Op.assign (Operand.tmp 72), type := 65, pos := "ref.go:153", after := #[{ on := 11, ground := Ground.data }, { on := 11, ground := Ground.chain }, { on := 0, ground := Ground.phase }, { on := 1, ground := Ground.phase }, { on := 2, ground := Ground.phase }, { on := 3, ground := Ground.phase }, { on := 4, ground := Ground.phase }, { on := 5, ground := Ground.phase }, { on := 6, ground := Ground.phase }, { on := 7, ground := Ground.phase }, { on := 8, ground := Ground.phase }, { on := 9, ground := Ground.phase }, { on := 10, ground := Ground.phase }, { on := 11, ground := Ground.phase }], guard := none }) (v := ?_) rfl (by kernel_rfl) (by kernel_rfl) (by kernel_rfl) (fun _ _ _ h => h) (Or.inl ⟨by rfl, ?_⟩) (by assumption) ?_
                rotate_left
                focus (intro w hSw; (try dsimp only at hSw); go_simp; try (with_reducible rfl))
                try simp only [Act.put, List.setIfInBounds_toArray, List.set_cons_zero, List.set_cons_succ]
                refine wpAnyH_done (by kernel_rfl) ?_ _
                go_wp2_with fail
                go_roundw
                case rel => exact ⟨k + 1, _, by omega, by go_num, HO9.out, by rw [HTK.out, HWR.out, List.map_append, List.flatten_append, HP.out]; simp [tellL, List.append_assoc], by have := HPL.out; simp; omega, HZ.out⟩
                case measure => simp [intOf]; omega
              · rw [if_pos (by rfl)]
                go_simp
                refine hK.out _ _ (HQ3.out.below (below_alloc Z3 _)).cells (fun hHeld => ?_)
                clear hK K
                try simp only [Act.put, List.setIfInBounds_toArray, List.set_cons_zero, List.set_cons_succ]
                have t3 := below_alloc Z3 (.cells #[.int .u8 255, .int .u8 240] 5)
                have HQ4 := Lib.hid (HQ3.out.below t3)
                have RB4 := Lib.hid (RB3.out.below t3)
                have RC4 := Lib.hid (RC3.out.below t3)
                have RD4 := Lib.hid (RD3.out.below t3)
                have RE4 := Lib.hid ((new2_own Z3 255 240).lower HQ3.out.old.size)
                obtain ⟨Z4, hZ4⟩ : ∃ Y, Y = Z3.alloc (.cells #[.int .u8 255, .int .u8 240] 5) := ⟨_, rfl⟩
                obtain ⟨gE, hgE⟩ : ∃ g, g = Z3.heap.size := ⟨_, rfl⟩
                rw [← hZ4] at HQ4 RB4 RC4 RD4 RE4 hHeld ⊢
                rw [← hgE] at RE4 ⊢
                clear t3 hZ4 hgE
                clear HQ3 RB3 RC3 RD3
                refine wpAnyH_ready (rs := [1]) (by kernel_rfl) (by simp) (AllReadyH.cons (o := { dst := some 62, op := Op.buildSlice 24 2 #[(0, Operand.const (Value.int IntKind.u8 255)), (1, Operand.const (Value.int IntKind.u8 250))], type := 24, pos := "ref.go:153", after := #[], guard := none }) rfl (fun K hK => ?_) AllReadyH.nil)
                rw [if_pos (by rfl)]
                go_simp
                refine hK.out _ _ (HQ4.out.below (below_alloc Z4 _)).cells (fun hHeld => ?_)
                clear hK K
                try simp only [Act.put, List.setIfInBounds_toArray, List.set_cons_zero, List.set_cons_succ]
                have t4 := below_alloc Z4 (.cells #[.int .u8 255, .int .u8 250] 5)
                have HQ5 := Lib.hid (HQ4.out.below t4)
                have RB5 := Lib.hid (RB4.out.below t4)
                have RC5 := Lib.hid (RC4.out.below t4)
                have RD5 := Lib.hid (RD4.out.below t4)
                have RE5 := Lib.hid (RE4.out.below t4)
                have RA5 := Lib.hid ((new2_own Z4 255 250).lower HQ4.out.old.size)
                obtain ⟨Z5, hZ5⟩ : ∃ Y, Y = Z4.alloc (.cells #[.int .u8 255, .int .u8 250] 5) := ⟨_, rfl⟩
                obtain ⟨gA, hgA⟩ : ∃ g, g = Z4.heap.size := ⟨_, rfl⟩
                rw [← hZ5] at HQ5 RB5 RC5 RD5 RE5 RA5 hHeld ⊢
                rw [← hgA] at RA5 ⊢
                clear t4 hZ5 hgA
                clear HQ4 RB4 RC4 RD4 RE4
                refine wpAnyH_ready (rs := [10]) (by kernel_rfl) (by simp) (AllReadyH.cons (o := { dst := some 71, op := Op.buildSlice 65 4 #[(0, Operand.tmp 62), (1, Operand.tmp 66), (2, Operand.tmp 69), (3, Operand.tmp 70)], type := 65, pos := "ref.go:153", after := #[{ on := 1, ground := Ground.data }, { on := 5, ground := Ground.data }, { on := 8, ground := Ground.data }, { on := 9, ground := Ground.data }], guard := none }) rfl (fun K hK => ?_) AllReadyH.nil)
                obtain ⟨ca, cc, rfl⟩ := row_form RC5.out
                obtain ⟨da, dc, rfl⟩ := row_form RD5.out
                obtain ⟨cn, hcn⟩ : ∃ m, m = (escL [o]).length := ⟨_, rfl⟩
                obtain ⟨dn, hdn⟩ : ∃ m, m = (escL B).length := ⟨_, rfl⟩
                rw [← hcn] at RC5 ⊢
                rw [← hdn] at RD5 ⊢
                clear hcn hdn
                rw [if_pos (by rfl)]
                go_simp
                refine hK.out _ _ (HQ5.out.below (below_alloc Z5 _)).cells (fun hHeld => ?_)
                clear hK K
                try simp only [Act.put, List.setIfInBounds_toArray, List.set_cons_zero, List.set_cons_succ]
                have t5 := below_alloc Z5 (.cells #[.slice (some ⟨gA, 0, none⟩) 2 2, .slice ca cn cc, .slice da dn dc, .slice (some ⟨gE, 0, none⟩) 2 2] 24)
                have hcl := sl_cl Z5 #[.slice (some ⟨gA, 0, none⟩) 2 2, .slice ca cn cc, .slice da dn dc, .slice (some ⟨gE, 0, none⟩) 2 2] 24
                have HQ6 := Lib.hid (HQ5.out.below t5)
                have RB6 := Lib.hid (RB5.out.below t5)
                have RC6 := Lib.hid (RC5.out.below t5)
                have RD6 := Lib.hid (RD5.out.below t5)
                have RE6 := Lib.hid (RE5.out.below t5)
                have RA6 := Lib.hid (RA5.out.below t5)
                obtain ⟨Z6, hZ6⟩ : ∃ Y, Y = Z5.alloc (.cells #[.slice (some ⟨gA, 0, none⟩) 2 2, .slice ca cn cc, .slice da dn dc, .slice (some ⟨gE, 0, none⟩) 2 2] 24) := ⟨_, rfl⟩
                obtain ⟨gF, hgF⟩ : ∃ g, g = Z5.heap.size := ⟨_, rfl⟩
                rw [← hZ6, ← hgF] at hcl
                rw [← hZ6] at HQ6 RB6 RC6 RD6 RE6 RA6 hHeld ⊢
                rw [← hgF]
                have HCL := Lib.hid hcl
                clear t5 hZ6 hgF hcl
                clear HQ5 RB5 RC5 RD5 RE5 RA5
                refine wpAnyH_ready (rs := [11]) (by kernel_rfl) (by simp) (AllReadyH.cons (o := { dst := some 72, op := Op.call { callee := Callee.builtin Builtin.append, args := #[Operand.tmp 61, Operand.tmp 71], argTypes := #[65, 65] }, type := 65, pos := "ref.go:153", after := #[{ on := 0, ground := Ground.data }, { on := 10, ground := Ground.data }, { on := 8, ground := Ground.chain }], guard := none }) rfl (fun K hK => ?_) AllReadyH.nil)
                refine step_append_sl (Q := [([255, 250], .slice (some ⟨gA, 0, none⟩) 2 2), (escL [o], .slice ca cn cc), (escL B, .slice da dn dc), ([255, 240], .slice (some ⟨gE, 0, none⟩) 2 2)]) (by rfl) _ _ (by rfl) HQ6.out.own (four_own RA6.out RC6.out RD6.out RE6.out) HCL.out rfl (by rfl) (by rfl) (by have := HPL.out; simp; omega) HQ6.out.old.size ?_
                intro v9 W9 hown hg
                have HZ := Lib.hid (HQ6.out.grown hown hg)
                have HB9 := Lib.hid (box_grown HQ6.out hg)
                have HO9 := Lib.hid hown
                clear hown hg
                refine hK.out _ _ ?_ (fun hHeld => ?_)
                · exact box_cells HB9.out
                clear hK K
                try simp only [Act.put, List.setIfInBounds_toArray, List.set_cons_zero, List.set_cons_succ]
                clear HQ6 RB6 RC6 RD6 RE6 RA6
                refine wpAnyH_take (i := 12) (oi := { dst := some 3, op := Op.assign (Operand.tmp 72), type := 65, pos := "ref.go:153", after := #[{ on := 11, ground := Ground.data }, { on := 11, ground := Ground.chain }, { on := 0, ground := Ground.phase }, { on := 1, ground := Ground.phase }, { on := 2, ground := Ground.phase }, { on := 3, ground := Ground.phase }, { on := 4, ground := Ground.phase }, { on := 5, ground := Ground.phase }, { on := 6, ground := Ground.phase }, { on := 7, ground := Ground.phase }, { on := 8, ground := Ground.phase }, { on := 9, ground := Ground.phase }, { on := 10, ground := Ground.phase }, { on := 11, ground := Ground.phase }], guard := none }) (v := ?_) rfl (by kernel_rfl) (by kernel_rfl) (by kernel_rfl) (fun _ _ _ h => h) (Or.inl ⟨by rfl, ?_⟩) (by assumption) ?_
                rotate_left
                focus (intro w hSw; (try dsimp only at hSw); go_simp; try (with_reducible rfl))
                try simp only [Act.put, List.setIfInBounds_toArray, List.set_cons_zero, List.set_cons_succ]
                refine wpAnyH_done (by kernel_rfl) ?_ _
                go_wp2_with fail
                go_roundw
                case rel => exact ⟨k + 1, _, by omega, by go_num, HO9.out, by rw [HTK.out, HWR.out, List.map_append, List.flatten_append, HP.out]; simp [tellL, List.append_assoc], by have := HPL.out; simp; omega, HZ.out⟩
                case measure => simp [intOf]; omega
            · rw [if_pos (by rfl)]
              go_simp
              refine hK.out _ _ (HQ2.out.below (below_alloc Z2 _)).cells (fun hHeld => ?_)
              clear hK K
              try simp only [Act.put, List.setIfInBounds_toArray, List.set_cons_zero, List.set_cons_succ]
              have t2 := below_alloc Z2 (.cells #[.int .u8 255, .int .u8 240] 5)
              have HQ3 := Lib.hid (HQ2.out.below t2)
              have RB3 := Lib.hid (RB2.out.below t2)
              have RC3 := Lib.hid (RC2.out.below t2)
              have RE3 := Lib.hid ((new2_own Z2 255 240).lower HQ2.out.old.size)
              obtain ⟨Z3, hZ3⟩ : ∃ Y, Y = Z2.alloc (.cells #[.int .u8 255, .int .u8 240] 5) := ⟨_, rfl⟩
              obtain ⟨gE, hgE⟩ : ∃ g, g = Z2.heap.size := ⟨_, rfl⟩
              rw [← hZ3] at HQ3 RB3 RC3 RE3 hHeld ⊢
              rw [← hgE] at RE3 ⊢
              clear t2 hZ3 hgE
              clear HQ2 RB2 RC2
              refine wpAnyH_ready (rs := [1, 8]) (by kernel_rfl) (by simp) (AllReadyH.cons (o := { dst := some 62, op := Op.buildSlice 24 2 #[(0, Operand.const (Value.int IntKind.u8 255)), (1, Operand.const (Value.int IntKind.u8 250))], type := 24, pos := "ref.go:153", after := #[], guard := none }) rfl (fun K hK => ?_) (AllReadyH.cons (o := { dst := some 69, op := Op.call { callee := Callee.value (Operand.func 13), args := #[Operand.tmp 68], argTypes := #[24] }, type := 24, pos := "ref.go:153", after := #[{ on := 7, ground := Ground.data }, { on := 5, ground := Ground.chain }], guard := none }) rfl (fun K hK => ?_) AllReadyH.nil))
              · rw [if_pos (by rfl)]
                go_simp
                refine hK.out _ _ (HQ3.out.below (below_alloc Z3 _)).cells (fun hHeld => ?_)
                clear hK K
                try simp only [Act.put, List.setIfInBounds_toArray, List.set_cons_zero, List.set_cons_succ]
                have t3 := below_alloc Z3 (.cells #[.int .u8 255, .int .u8 250] 5)
                have HQ4 := Lib.hid (HQ3.out.below t3)
                have RB4 := Lib.hid (RB3.out.below t3)
                have RC4 := Lib.hid (RC3.out.below t3)
                have RE4 := Lib.hid (RE3.out.below t3)
                have RA4 := Lib.hid ((new2_own Z3 255 250).lower HQ3.out.old.size)
                obtain ⟨Z4, hZ4⟩ : ∃ Y, Y = Z3.alloc (.cells #[.int .u8 255, .int .u8 250] 5) := ⟨_, rfl⟩
                obtain ⟨gA, hgA⟩ : ∃ g, g = Z3.heap.size := ⟨_, rfl⟩
                rw [← hZ4] at HQ4 RB4 RC4 RE4 RA4 hHeld ⊢
                rw [← hgA] at RA4 ⊢
                clear t3 hZ4 hgA
                clear HQ3 RB3 RC3 RE3
                refine wpAnyH_ready (rs := [8]) (by kernel_rfl) (by simp) (AllReadyH.cons (o := { dst := some 69, op := Op.call { callee := Callee.value (Operand.func 13), args := #[Operand.tmp 68], argTypes := #[24] }, type := 24, pos := "ref.go:153", after := #[{ on := 7, ground := Ground.data }, { on := 5, ground := Ground.chain }], guard := none }) rfl (fun K hK => ?_) AllReadyH.nil)
                rw [if_pos (by rfl)]
                go_simp
                (go_at_call 13; refine (rescape_any _ B Z4 (HU.out.below HQ4.out.old) (by have := HBL.out; omega)).mono ?_; rintro e Z5 ⟨pD, rfl, hp, t4⟩)
                go_wp2_with fail
                refine hK.out _ _ (HQ4.out.below t4).cells (fun hHeld => ?_)
                clear hK K
                try simp only [Act.put, List.setIfInBounds_toArray, List.set_cons_zero, List.set_cons_succ]
                have HQ5 := Lib.hid (HQ4.out.below t4)
                have RB5 := Lib.hid (RB4.out.below t4)
                have RC5 := Lib.hid (RC4.out.below t4)
                have RE5 := Lib.hid (RE4.out.below t4)
                have RA5 := Lib.hid (RA4.out.below t4)
                have RD5 := Lib.hid (hp.lower HQ4.out.old.size)
                clear hp t4
                clear HQ4 RB4 RC4 RE4 RA4
                refine wpAnyH_ready (rs := [10]) (by kernel_rfl) (by simp) (AllReadyH.cons (o := { dst := some 71, op := Op.buildSlice 65 4 #[(0, Operand.tmp 62), (1, Operand.tmp 66), (2, Operand.tmp 69), (3, Operand.tmp 70)], type := 65, pos := "ref.go:153", after := #[{ on := 1, ground := Ground.data }, { on := 5, ground := Ground.data }, { on := 8, ground := Ground.data }, { on := 9, ground := Ground.data }], guard := none }) rfl (fun K hK => ?_) AllReadyH.nil)
                obtain ⟨ca, cc, rfl⟩ := row_form RC5.out
                obtain ⟨da, dc, rfl⟩ := row_form RD5.out
                obtain ⟨cn, hcn⟩ : ∃ m, m = (escL [o]).length := ⟨_, rfl⟩
                obtain ⟨dn, hdn⟩ : ∃ m, m = (escL B).length := ⟨_, rfl⟩
                rw [← hcn] at RC5 ⊢
                rw [← hdn] at RD5 ⊢
                clear hcn hdn
                rw [if_pos (by rfl)]
                go_simp
                refine hK.out _ _ (HQ5.out.below (below_alloc Z5 _)).cells (fun hHeld => ?_)
                clear hK K
                try simp only [Act.put, List.setIfInBounds_toArray, List.set_cons_zero, List.set_cons_succ]
                have t5 := below_alloc Z5 (.cells #[.slice (some ⟨gA, 0, none⟩) 2 2, .slice ca cn cc, .slice da dn dc, .slice (some ⟨gE, 0, none⟩) 2 2] 24)
                have hcl := sl_cl Z5 #[.slice (some ⟨gA, 0, none⟩) 2 2, .slice ca cn cc, .slice da dn dc, .slice (some ⟨gE, 0, none⟩) 2 2] 24
                have HQ6 := Lib.hid (HQ5.out.below t5)
                have RB6 := Lib.hid (RB5.out.below t5)
                have RC6 := Lib.hid (RC5.out.below t5)
                have RE6 := Lib.hid (RE5.out.below t5)
                have RA6 := Lib.hid (RA5.out.below t5)
                have RD6 := Lib.hid (RD5.out.below t5)
                obtain ⟨Z6, hZ6⟩ : ∃ Y, Y = Z5.alloc (.cells #[.slice (some ⟨gA, 0, none⟩) 2 2, .slice ca cn cc, .slice da dn dc, .slice (some ⟨gE, 0, none⟩) 2 2] 24) := ⟨_, rfl⟩
                obtain ⟨gF, hgF⟩ : ∃ g, g = Z5.heap.size := ⟨_, rfl⟩
                rw [← hZ6, ← hgF] at hcl
                rw [← hZ6] at HQ6 RB6 RC6 RE6 RA6 RD6 hHeld ⊢
                rw [← hgF]
                have HCL := Lib.hid hcl
                clear t5 hZ6 hgF hcl
                clear HQ5 RB5 RC5 RE5 RA5 RD5
                refine wpAnyH_ready (rs := [11]) (by kernel_rfl) (by simp) (AllReadyH.cons (o := { dst := some 72, op := Op.call { callee := Callee.builtin Builtin.append, args := #[Operand.tmp 61, Operand.tmp 71], argTypes := #[65, 65] }, type := 65, pos := "ref.go:153", after := #[{ on := 0, ground := Ground.data }, { on := 10, ground := Ground.data }, { on := 8, ground := Ground.chain }], guard := none }) rfl (fun K hK => ?_) AllReadyH.nil)
                refine step_append_sl (Q := [([255, 250], .slice (some ⟨gA, 0, none⟩) 2 2), (escL [o], .slice ca cn cc), (escL B, .slice da dn dc), ([255, 240], .slice (some ⟨gE, 0, none⟩) 2 2)]) (by rfl) _ _ (by rfl) HQ6.out.own (four_own RA6.out RC6.out RD6.out RE6.out) HCL.out rfl (by rfl) (by rfl) (by have := HPL.out; simp; omega) HQ6.out.old.size ?_
                intro v9 W9 hown hg
                have HZ := Lib.hid (HQ6.out.grown hown hg)
                have HB9 := Lib.hid (box_grown HQ6.out hg)
                have HO9 := Lib.hid hown
                clear hown hg
                refine hK.out _ _ ?_ (fun hHeld => ?_)
                · exact box_cells HB9.out
                clear hK K
                try simp only [Act.put, List.setIfInBounds_toArray, List.set_cons_zero, List.set_cons_succ]
                clear HQ6 RB6 RC6 RE6 RA6 RD6
                refine wpAnyH_take (i := 12) (oi := { dst := some 3, op := Op.assign (Operand.tmp 72), type := 65, pos := "ref.go:153", after := #[{ on := 11, ground := Ground.data }, { on := 11, ground := Ground.chain }, { on := 0, ground := Ground.phase }, { on := 1, ground := Ground.phase }, { on := 2, ground := Ground.phase }, { on := 3, ground := Ground.phase }, { on := 4, ground := Ground.phase }, { on := 5, ground := Ground.phase }, { on := 6, ground := Ground.phase }, { on := 7, ground := Ground.phase }, { on := 8, ground := Ground.phase }, { on := 9, ground := Ground.phase }, { on := 10, ground := Ground.phase }, { on := 11, ground := Ground.phase }], guard := none }) (v := ?_) rfl (by kernel_rfl) (by kernel_rfl) (by kernel_rfl) (fun _ _ _ h => h) (Or.inl ⟨by rfl, ?_⟩) (by assumption) ?_
                rotate_left
                focus (intro w hSw; (try dsimp only at hSw); go_simp; try (with_reducible rfl))
                try simp only [Act.put, List.setIfInBounds_toArray, List.set_cons_zero, List.set_cons_succ]
                refine wpAnyH_done (by kernel_rfl) ?_ _
                go_wp2_with fail
                go_roundw
                case rel => exact ⟨k + 1, _, by omega, by go_num, HO9.out, by rw [HTK.out, HWR.out, List.map_append, List.flatten_append, HP.out]; simp [tellL, List.append_assoc], by have := HPL.out; simp; omega, HZ.out⟩
                case measure => simp [intOf]; omega
              · rw [if_pos (by rfl)]
                go_simp
                (go_at_call 13; refine (rescape_any _ B Z3 (HU.out.below HQ3.out.old) (by have := HBL.out; omega)).mono ?_; rintro e Z4 ⟨pD, rfl, hp, t3⟩)
                go_wp2_with fail
                refine hK.out _ _ (HQ3.out.below t3).cells (fun hHeld => ?_)
                clear hK K
                try simp only [Act.put, List.setIfInBounds_toArray, List.set_cons_zero, List.set_cons_succ]
                have HQ4 := Lib.hid (HQ3.out.below t3)
                have RB4 := Lib.hid (RB3.out.below t3)
                have RC4 := Lib.hid (RC3.out.below t3)
                have RE4 := Lib.hid (RE3.out.below t3)
                have RD4 := Lib.hid (hp.lower HQ3.out.old.size)
                clear hp t3
                clear HQ3 RB3 RC3 RE3
                refine wpAnyH_ready (rs := [1]) (by kernel_rfl) (by simp) (AllReadyH.cons (o := { dst := some 62, op := Op.buildSlice 24 2 #[(0, Operand.const (Value.int IntKind.u8 255)), (1, Operand.const (Value.int IntKind.u8 250))], type := 24, pos := "ref.go:153", after := #[], guard := none }) rfl (fun K hK => ?_) AllReadyH.nil)
                rw [if_pos (by rfl)]
                go_simp
                refine hK.out _ _ (HQ4.out.below (below_alloc Z4 _)).cells (fun hHeld => ?_)
                clear hK K
                try simp only [Act.put, List.setIfInBounds_toArray, List.set_cons_zero, List.set_cons_succ]
                have t4 := below_alloc Z4 (.cells #[.int .u8 255, .int .u8 250] 5)
                have HQ5 := Lib.hid (HQ4.out.below t4)
                have RB5 := Lib.hid (RB4.out.below t4)
                have RC5 := Lib.hid (RC4.out.below t4)
                have RE5 := Lib.hid (RE4.out.below t4)
                have RD5 := Lib.hid (RD4.out.below t4)
                have RA5 := Lib.hid ((new2_own Z4 255 250).lower HQ4.out.old.size)
                obtain ⟨Z5, hZ5⟩ : ∃ Y, Y = Z4.alloc (.cells #[.int .u8 255, .int .u8 250] 5) := ⟨_, rfl⟩
                obtain ⟨gA, hgA⟩ : ∃ g, g = Z4.heap.size := ⟨_, rfl⟩
                rw [← hZ5] at HQ5 RB5 RC5 RE5 RD5 RA5 hHeld ⊢
                rw [← hgA] at RA5 ⊢
                clear t4 hZ5 hgA
                clear HQ4 RB4 RC4 RE4 RD4
                refine wpAnyH_ready (rs := [10]) (by kernel_rfl) (by simp) (AllReadyH.cons (o := { dst := some 71, op := Op.buildSlice 65 4 #[(0, Operand.tmp 62), (1, Operand.tmp 66), (2, Operand.tmp 69), (3, Operand.tmp 70)], type := 65, pos := "ref.go:153", after := #[{ on := 1, ground := Ground.data }, { on := 5, ground := Ground.data }, { on := 8, ground := Ground.data }, { on := 9, ground := Ground.data }], guard := none }) rfl (fun K hK => ?_) AllReadyH.nil)
                obtain ⟨ca, cc, rfl⟩ := row_form RC5.out
                obtain ⟨da, dc, rfl⟩ := row_form RD5.out
                obtain ⟨cn, hcn⟩ : ∃ m, m = (escL [o]).length := ⟨_, rfl⟩
                obtain ⟨dn, hdn⟩ : ∃ m, m = (escL B).length := ⟨_, rfl⟩
                rw [← hcn] at RC5 ⊢
                rw [← hdn] at RD5 ⊢
                clear hcn hdn
                rw [if_pos (by rfl)]
                go_simp
                refine hK.out _ _ (HQ5.out.below (below_alloc Z5 _)).cells (fun hHeld => ?_)
                clear hK K
                try simp only [Act.put, List.setIfInBounds_toArray, List.set_cons_zero, List.set_cons_succ]
                have t5 := below_alloc Z5 (.cells #[.slice (some ⟨gA, 0, none⟩) 2 2, .slice ca cn cc, .slice da dn dc, .slice (some ⟨gE, 0, none⟩) 2 2] 24)
                have hcl := sl_cl Z5 #[.slice (some ⟨gA, 0, none⟩) 2 2, .slice ca cn cc, .slice da dn dc, .slice (some ⟨gE, 0, none⟩) 2 2] 24
                have HQ6 := Lib.hid (HQ5.out.below t5)
                have RB6 := Lib.hid (RB5.out.below t5)
                have RC6 := Lib.hid (RC5.out.below t5)
                have RE6 := Lib.hid (RE5.out.below t5)
                have RD6 := Lib.hid (RD5.out.below t5)
                have RA6 := Lib.hid (RA5.out.below t5)
                obtain ⟨Z6, hZ6⟩ : ∃ Y, Y = Z5.alloc (.cells #[.slice (some ⟨gA, 0, none⟩) 2 2, .slice ca cn cc, .slice da dn dc, .slice (some ⟨gE, 0, none⟩) 2 2] 24) := ⟨_, rfl⟩
                obtain ⟨gF, hgF⟩ : ∃ g, g = Z5.heap.size := ⟨_, rfl⟩
                rw [← hZ6, ← hgF] at hcl
                rw [← hZ6] at HQ6 RB6 RC6 RE6 RD6 RA6 hHeld ⊢
                rw [← hgF]
                have HCL := Lib.hid hcl
                clear t5 hZ6 hgF hcl
                clear HQ5 RB5 RC5 RE5 RD5 RA5
                refine wpAnyH_ready (rs := [11]) (by kernel_rfl) (by simp) (AllReadyH.cons (o := { dst := some 72, op := Op.call { callee := Callee.builtin Builtin.append, args := #[Operand.tmp 61, Operand.tmp 71], argTypes := #[65, 65] }, type := 65, pos := "ref.go:153", after := #[{ on := 0, ground := Ground.data }, { on := 10, ground := Ground.data }, { on := 8, ground := Ground.chain }], guard := none }) rfl (fun K hK => ?_) AllReadyH.nil)
                refine step_append_sl (Q := [([255, 250], .slice (some ⟨gA, 0, none⟩) 2 2), (escL [o], .slice ca cn cc), (escL B, .slice da dn dc), ([255, 240], .slice (some ⟨gE, 0, none⟩) 2 2)]) (by rfl) _ _ (by rfl) HQ6.out.own (four_own RA6.out RC6.out RD6.out RE6.out) HCL.out rfl (by rfl) (by rfl) (by have := HPL.out; simp; omega) HQ6.out.old.size ?_
                intro v9 W9 hown hg
                have HZ := Lib.hid (HQ6.out.grown hown hg)
                have HB9 := Lib.hid (box_grown HQ6.out hg)
                have HO9 := Lib.hid hown
                clear hown hg
                refine hK.out _ _ ?_ (fun hHeld => ?_)
                · exact box_cells HB9.out
                clear hK K
                try simp only [Act.put, List.setIfInBounds_toArray, List.set_cons_zero, List.set_cons_succ]
                clear HQ6 RB6 RC6 RE6 RD6 RA6
                refine wpAnyH_take (i := 12) (oi := { dst := some 3, op := Op.assign (Operand.tmp 72), type := 65, pos := "ref.go:153", after := #[{ on := 11, ground := Ground.data }, { on := 11, ground := Ground.chain }, { on := 0, ground := Ground.phase }, { on := 1, ground := Ground.phase }, { on := 2, ground := Ground.phase }, { on := 3, ground := Ground.phase }, { on := 4, ground := Ground.phase }, { on := 5, ground := Ground.phase }, { on := 6, ground := Ground.phase }, { on := 7, ground := Ground.phase }, { on := 8, ground := Ground.phase }, { on := 9, ground := Ground.phase }, { on := 10, ground := Ground.phase }, { on := 11, ground := Ground.phase }], guard := none }) (v := ?_) rfl (by kernel_rfl) (by kernel_rfl) (by kernel_rfl) (fun _ _ _ h => h) (Or.inl ⟨by rfl, ?_⟩) (by assumption) ?_
                rotate_left
                focus (intro w hSw; (try dsimp only at hSw); go_simp; try (with_reducible rfl))
                try simp only [Act.put, List.setIfInBounds_toArray, List.set_cons_zero, List.set_cons_succ]
                refine wpAnyH_done (by kernel_rfl) ?_ _
                go_wp2_with fail
                go_roundw
                case rel => exact ⟨k + 1, _, by omega, by go_num, HO9.out, by rw [HTK.out, HWR.out, List.map_append, List.flatten_append, HP.out]; simp [tellL, List.append_assoc], by have := HPL.out; simp; omega, HZ.out⟩
                case measure => simp [intOf]; omega
          · rw [if_pos (by rfl)]
            go_simp
            refine hK.out _ _ (HQ1.out.below (below_alloc Z1 _)).cells (fun hHeld => ?_)
            clear hK K
            try simp only [Act.put, List.setIfInBounds_toArray, List.set_cons_zero, List.set_cons_succ]
            have t1 := below_alloc Z1 (.cells #[.int .u8 255, .int .u8 240] 5)
            have HQ2 := Lib.hid (HQ1.out.below t1)
            have RB2 := Lib.hid (RB1.out.below t1)
            have RE2 := Lib.hid ((new2_own Z1 255 240).lower HQ1.out.old.size)
            obtain ⟨Z2, hZ2⟩ : ∃ Y, Y = Z1.alloc (.cells #[.int .u8 255, .int .u8 240] 5) := ⟨_, rfl⟩
            obtain ⟨gE, hgE⟩ : ∃ g, g = Z1.heap.size := ⟨_, rfl⟩
            rw [← hZ2] at HQ2 RB2 RE2 hHeld ⊢
            rw [← hgE] at RE2 ⊢
            clear t1 hZ2 hgE
            clear HQ1 RB1
            refine wpAnyH_ready (rs := [1, 5]) (by kernel_rfl) (by simp) (AllReadyH.cons (o := { dst := some 62, op := Op.buildSlice 24 2 #[(0, Operand.const (Value.int IntKind.u8 255)), (1, Operand.const (Value.int IntKind.u8 250))], type := 24, pos := "ref.go:153", after := #[], guard := none }) rfl (fun K hK => ?_) (AllReadyH.cons (o := { dst := some 66, op := Op.call { callee := Callee.value (Operand.func 13), args := #[Operand.tmp 65], argTypes := #[24] }, type := 24, pos := "ref.go:153", after := #[{ on := 4, ground := Ground.data }], guard := none }) rfl (fun K hK => ?_) AllReadyH.nil))
            · rw [if_pos (by rfl)]
              go_simp
              refine hK.out _ _ (HQ2.out.below (below_alloc Z2 _)).cells (fun hHeld => ?_)
              clear hK K
              try simp only [Act.put, List.setIfInBounds_toArray, List.set_cons_zero, List.set_cons_succ]
              have t2 := below_alloc Z2 (.cells #[.int .u8 255, .int .u8 250] 5)
              have HQ3 := Lib.hid (HQ2.out.below t2)
              have RB3 := Lib.hid (RB2.out.below t2)
              have RE3 := Lib.hid (RE2.out.below t2)
              have RA3 := Lib.hid ((new2_own Z2 255 250).lower HQ2.out.old.size)
              obtain ⟨Z3, hZ3⟩ : ∃ Y, Y = Z2.alloc (.cells #[.int .u8 255, .int .u8 250] 5) := ⟨_, rfl⟩
              obtain ⟨gA, hgA⟩ : ∃ g, g = Z2.heap.size := ⟨_, rfl⟩
              rw [← hZ3] at HQ3 RB3 RE3 RA3 hHeld ⊢
              rw [← hgA] at RA3 ⊢
              clear t2 hZ3 hgA
              clear HQ2 RB2 RE2
              refine wpAnyH_ready (rs := [5]) (by kernel_rfl) (by simp) (AllReadyH.cons (o := { dst := some 66, op := Op.call { callee := Callee.value (Operand.func 13), args := #[Operand.tmp 65], argTypes := #[24] }, type := 24, pos := "ref.go:153", after := #[{ on := 4, ground := Ground.data }], guard := none }) rfl (fun K hK => ?_) AllReadyH.nil)
              rw [if_pos (by rfl)]
              go_simp
              (go_at_call 13; refine (rescape_any _ [o] Z3 RB3.out.row (by simp)).mono ?_; rintro e Z4 ⟨pC, rfl, hp, t3⟩)
              go_wp2_with fail
              refine hK.out _ _ (HQ3.out.below t3).cells (fun hHeld => ?_)
              clear hK K
              try simp only [Act.put, List.setIfInBounds_toArray, List.set_cons_zero, List.set_cons_succ]
              have HQ4 := Lib.hid (HQ3.out.below t3)
              have RB4 := Lib.hid (RB3.out.below t3)
              have RE4 := Lib.hid (RE3.out.below t3)
              have RA4 := Lib.hid (RA3.out.below t3)
              have RC4 := Lib.hid (hp.lower HQ3.out.old.size)
              clear hp t3
              clear HQ3 RB3 RE3 RA3
              refine wpAnyH_ready (rs := [8]) (by kernel_rfl) (by simp) (AllReadyH.cons (o := { dst := some 69, op := Op.call { callee := Callee.value (Operand.func 13), args := #[Operand.tmp 68], argTypes := #[24] }, type := 24, pos := "ref.go:153", after := #[{ on := 7, ground := Ground.data }, { on := 5, ground := Ground.chain }], guard := none }) rfl (fun K hK => ?_) AllReadyH.nil)
              rw [if_pos (by rfl)]
              go_simp
              (go_at_call 13; refine (rescape_any _ B Z4 (HU.out.below HQ4.out.old) (by have := HBL.out; omega)).mono ?_; rintro e Z5 ⟨pD, rfl, hp, t4⟩)
              go_wp2_with fail
              refine hK.out _ _ (HQ4.out.below t4).cells (fun hHeld => ?_)
              clear hK K
              try simp only [Act.put, List.setIfInBounds_toArray, List.set_cons_zero, List.set_cons_succ]
              have HQ5 := Lib.hid (HQ4.out.below t4)
              have RB5 := Lib.hid (RB4.out.below t4)
              have RE5 := Lib.hid (RE4.out.below t4)
              have RA5 := Lib.hid (RA4.out.below t4)
              have RC5 := Lib.hid (RC4.out.below t4)
              have RD5 := Lib.hid (hp.lower HQ4.out.old.size)
              clear hp t4
              clear HQ4 RB4 RE4 RA4 RC4
              refine wpAnyH_ready (rs := [10]) (by kernel_rfl) (by simp) (AllReadyH.cons (o := { dst := some 71, op := Op.buildSlice 65 4 #[(0, Operand.tmp 62), (1, Operand.tmp 66), (2, Operand.tmp 69), (3, Operand.tmp 70)], type := 65, pos := "ref.go:153", after := #[{ on := 1, ground := Ground.data }, { on := 5, ground := Ground.data }, { on := 8, ground := Ground.data }, { on := 9, ground := Ground.data }], guard := none }) rfl (fun K hK => ?_) AllReadyH.nil)
              obtain ⟨ca, cc, rfl⟩ := row_form RC5.out
              obtain ⟨da, dc, rfl⟩ := row_form RD5.out
              obtain ⟨cn, hcn⟩ : ∃ m, m = (escL [o]).length := ⟨_, rfl⟩
              obtain ⟨dn, hdn⟩ : ∃ m, m = (escL B).length := ⟨_, rfl⟩
              rw [← hcn] at RC5 ⊢
              rw [← hdn] at RD5 ⊢
              clear hcn hdn
              rw [if_pos (by rfl)]
              go_simp
              refine hK.out _ _ (HQ5.out.below (below_alloc Z5 _)).cells (fun hHeld => ?_)
              clear hK K
              try simp only [Act.put, List.setIfInBounds_toArray, List.set_cons_zero, List.set_cons_succ]
              have t5 := below_alloc Z5 (.cells #[.slice (some ⟨gA, 0, none⟩) 2 2, .slice ca cn cc, .slice da dn dc, .slice (some ⟨gE, 0, none⟩) 2 2] 24)
              have hcl := sl_cl Z5 #[.slice (some ⟨gA, 0, none⟩) 2 2, .slice ca cn cc, .slice da dn dc, .slice (some ⟨gE, 0, none⟩) 2 2] 24
              have HQ6 := Lib.hid (HQ5.out.below t5)
              have RB6 := Lib.hid (RB5.out.below t5)
              have RE6 := Lib.hid (RE5.out.below t5)
              have RA6 := Lib.hid (RA5.out.below t5)
              have RC6 := Lib.hid (RC5.out.below t5)
              have RD6 := Lib.hid (RD5.out.below t5)
              obtain ⟨Z6, hZ6⟩ : ∃ Y, Y = Z5.alloc (.cells #[.slice (some ⟨gA, 0, none⟩) 2 2, .slice ca cn cc, .slice da dn dc, .slice (some ⟨gE, 0, none⟩) 2 2] 24) := ⟨_, rfl⟩
              obtain ⟨gF, hgF⟩ : ∃ g, g = Z5.heap.size := ⟨_, rfl⟩
              rw [← hZ6, ← hgF] at hcl
              rw [← hZ6] at HQ6 RB6 RE6 RA6 RC6 RD6 hHeld ⊢
              rw [← hgF]
              have HCL := Lib.hid hcl
              clear t5 hZ6 hgF hcl
              clear HQ5 RB5 RE5 RA5 RC5 RD5
              refine wpAnyH_ready (rs := [11]) (by kernel_rfl) (by simp) (AllReadyH.cons (o := { dst := some 72, op := Op.call { callee := Callee.builtin Builtin.append, args := #[Operand.tmp 61, Operand.tmp 71], argTypes := #[65, 65] }, type := 65, pos := "ref.go:153", after := #[{ on := 0, ground := Ground.data }, { on := 10, ground := Ground.data }, { on := 8, ground := Ground.chain }], guard := none }) rfl (fun K hK => ?_) AllReadyH.nil)
              refine step_append_sl (Q := [([255, 250], .slice (some ⟨gA, 0, none⟩) 2 2), (escL [o], .slice ca cn cc), (escL B, .slice da dn dc), ([255, 240], .slice (some ⟨gE, 0, none⟩) 2 2)]) (by rfl) _ _ (by rfl) HQ6.out.own (four_own RA6.out RC6.out RD6.out RE6.out) HCL.out rfl (by rfl) (by rfl) (by have := HPL.out; simp; omega) HQ6.out.old.size ?_
              intro v9 W9 hown hg
              have HZ := Lib.hid (HQ6.out.grown hown hg)
              have HB9 := Lib.hid (box_grown HQ6.out hg)
              have HO9 := Lib.hid hown
              clear hown hg
              refine hK.out _ _ ?_ (fun hHeld => ?_)
              · exact box_cells HB9.out
              clear hK K
              try simp only [Act.put, List.setIfInBounds_toArray, List.set_cons_zero, List.set_cons_succ]
              clear HQ6 RB6 RE6 RA6 RC6 RD6
              refine wpAnyH_take (i := 12) (oi := { dst := some 3, op := Op.assign (Operand.tmp 72), type := 65, pos := "ref.go:153", after := #[{ on := 11, ground := Ground.data }, { on := 11, ground := Ground.chain }, { on := 0, ground := Ground.phase }, { on := 1, ground := Ground.phase }, { on := 2, ground := Ground.phase }, { on := 3, ground := Ground.phase }, { on := 4, ground := Ground.phase }, { on := 5, ground := Ground.phase }, { on := 6, ground := Ground.phase }, { on := 7, ground := Ground.phase }, { on := 8, ground := Ground.phase }, { on := 9, ground := Ground.phase }, { on := 10, ground := Ground.phase }, { on := 11, ground := Ground.phase }], guard := none }) (v := ?_) rfl (by kernel_rfl) (by kernel_rfl) (by kernel_rfl) (fun _ _ _ h => h) (Or.inl ⟨by rfl, ?_⟩) (by assumption) ?_
              rotate_left
              focus (intro w hSw; (try dsimp only at hSw); go_simp; try (with_reducible rfl))
              try simp only [Act.put, List.setIfInBounds_toArray, List.set_cons_zero, List.set_cons_succ]
              refine wpAnyH_done (by kernel_rfl) ?_ _
              go_wp2_with fail
              go_roundw
              case rel => exact ⟨k + 1, _, by omega, by go_num, HO9.out, by rw [HTK.out, HWR.out, List.map_append, List.flatten_append, HP.out]; simp [tellL, List.append_assoc], by have := HPL.out; simp; omega, HZ.out⟩
              case measure => simp [intOf]; omega
            · rw [if_pos (by rfl)]
              go_simp
              (go_at_call 13; refine (rescape_any _ [o] Z2 RB2.out.row (by simp)).mono ?_; rintro e Z3 ⟨pC, rfl, hp, t2⟩)
              go_wp2_with fail
              refine hK.out _ _ (HQ2.out.below t2).cells (fun hHeld => ?_)
              clear hK K
              try simp only [Act.put, List.setIfInBounds_toArray, List.set_cons_zero, List.set_cons_succ]
              have HQ3 := Lib.hid (HQ2.out.below t2)
              have RB3 := Lib.hid (RB2.out.below t2)
              have RE3 := Lib.hid (RE2.out.below t2)
              have RC3 := Lib.hid (hp.lower HQ2.out.old.size)
              clear hp t2
              clear HQ2 RB2 RE2
              refine wpAnyH_ready (rs := [1, 8]) (by kernel_rfl) (by simp) (AllReadyH.cons (o := { dst := some 62, op := Op.buildSlice 24 2 #[(0, Operand.const (Value.int IntKind.u8 255)), (1, Operand.const (Value.int IntKind.u8 250))], type := 24, pos := "ref.go:153", after := #[], guard := none }) rfl (fun K hK => ?_) (AllReadyH.cons (o := { dst := some 69, op := Op.call { callee := Callee.value (Operand.func 13), args := #[Operand.tmp 68], argTypes := #[24] }, type := 24, pos := "ref.go:153", after := #[{ on := 7, ground := Ground.data }, { on := 5, ground := Ground.chain }], guard := none }) rfl (fun K hK => ?_) AllReadyH.nil))
              · rw [if_pos (by rfl)]
                go_simp
                refine hK.out _ _ (HQ3.out.below (below_alloc Z3 _)).cells (fun hHeld => ?_)
                clear hK K
                try simp only [Act.put, List.setIfInBounds_toArray, List.set_cons_zero, List.set_cons_succ]
                have t3 := below_alloc Z3 (.cells #[.int .u8 255, .int .u8 250] 5)
                have HQ4 := Lib.hid (HQ3.out.below t3)
                have RB4 := Lib.hid (RB3.out.below t3)
                have RE4 := Lib.hid (RE3.out.below t3)
                have RC4 := Lib.hid (RC3.out.below t3)
                have RA4 := Lib.hid ((new2_own Z3 255 250).lower HQ3.out.old.size)
                obtain ⟨Z4, hZ4⟩ : ∃ Y, Y = Z3.alloc (.cells #[.int .u8 255, .int .u8 250] 5) := ⟨_, rfl⟩
                obtain ⟨gA, hgA⟩ : ∃ g, g = Z3.heap.size := ⟨_, rfl⟩
                rw [← hZ4] at HQ4 RB4 RE4 RC4 RA4 hHeld ⊢
                rw [← hgA] at RA4 ⊢
                clear t3 hZ4 hgA
                clear HQ3 RB3 RE3 RC3
                refine wpAnyH_ready (rs := [8]) (by kernel_rfl) (by simp) (AllReadyH.cons (o := { dst := some 69, op := Op.call { callee := Callee.value (Operand.func 13), args := #[Operand.tmp 68], argTypes := #[24] }, type := 24, pos := "ref.go:153", after := #[{ on := 7, ground := Ground.data }, { on := 5, ground := Ground.chain }], guard := none }) rfl (fun K hK => ?_) AllReadyH.nil)
                rw [if_pos (by rfl)]
                go_simp
                (go_at_call 13; refine (rescape_any _ B Z4 (HU.out.below HQ4.out.old) (by have := HBL.out; omega)).mono ?_; rintro e Z5 ⟨pD, rfl, hp, t4⟩)
                go_wp2_with fail
                refine hK.out _ _ (HQ4.out.below t4).cells (fun hHeld => ?_)
                clear hK K
                try simp only [Act.put, List.setIfInBounds_toArray, List.set_cons_zero, List.set_cons_succ]
                have HQ5 := Lib.hid (HQ4.out.below t4)
                have RB5 := Lib.hid (RB4.out.below t4)
                have RE5 := Lib.hid (RE4.out.below t4)
                have RC5 := Lib.hid (RC4.out.below t4)
                have RA5 := Lib.hid (RA4.out.below t4)
                have RD5 := Lib.hid (hp.lower HQ4.out.old.size)
                clear hp t4
                clear HQ4 RB4 RE4 RC4 RA4
                refine wpAnyH_ready (rs := [10]) (by kernel_rfl) (by simp) (AllReadyH.cons (o := { dst := some 71, op := Op.buildSlice 65 4 #[(0, Operand.tmp 62), (1, Operand.tmp 66), (2, Operand.tmp 69), (3, Operand.tmp 70)], type := 65, pos := "ref.go:153", after := #[{ on := 1, ground := Ground.data }, { on := 5, ground := Ground.data }, { on := 8, ground := Ground.data }, { on := 9, ground := Ground.data }], guard := none }) rfl (fun K hK => ?_) AllReadyH.nil)
                obtain ⟨ca, cc, rfl⟩ := row_form RC5.out
                obtain ⟨da, dc, rfl⟩ := row_form RD5.out
                obtain ⟨cn, hcn⟩ : ∃ m, m = (escL [o]).length := ⟨_, rfl⟩
                obtain ⟨dn, hdn⟩ : ∃ m, m = (escL B).length := ⟨_, rfl⟩
                rw [← hcn] at RC5 ⊢
                rw [← hdn] at RD5 ⊢
                clear hcn hdn
                rw [if_pos (by rfl)]
                go_simp
                refine hK.out _ _ (HQ5.out.below (below_alloc Z5 _)).cells (fun hHeld => ?_)
                clear hK K
                try simp only [Act.put, List.setIfInBounds_toArray, List.set_cons_zero, List.set_cons_succ]
                have t5 := below_alloc Z5 (.cells #[.slice (some ⟨gA, 0, none⟩) 2 2, .slice ca cn cc, .slice da dn dc, .slice (some ⟨gE, 0, none⟩) 2 2] 24)
                have hcl := sl_cl Z5 #[.slice (some ⟨gA, 0, none⟩) 2 2, .slice ca cn cc, .slice da dn dc, .slice (some ⟨gE, 0, none⟩) 2 2] 24
                have HQ6 := Lib.hid (HQ5.out.below t5)
                have RB6 := Lib.hid (RB5.out.below t5)
                have RE6 := Lib.hid (RE5.out.below t5)
                have RC6 := Lib.hid (RC5.out.below t5)
                have RA6 := Lib.hid (RA5.out.below t5)
                have RD6 := Lib.hid (RD5.out.below t5)
                obtain ⟨Z6, hZ6⟩ : ∃ Y, Y = Z5.alloc (.cells #[.slice (some ⟨gA, 0, none⟩) 2 2, .slice ca cn cc, .slice da dn dc, .slice (some ⟨gE, 0, none⟩) 2 2] 24) := ⟨_, rfl⟩
                obtain ⟨gF, hgF⟩ : ∃ g, g = Z5.heap.size := ⟨_, rfl⟩
                rw [← hZ6, ← hgF] at hcl
                rw [← hZ6] at HQ6 RB6 RE6 RC6 RA6 RD6 hHeld ⊢
                rw [← hgF]
                have HCL := Lib.hid hcl
                clear t5 hZ6 hgF hcl
                clear HQ5 RB5 RE5 RC5 RA5 RD5
                refine wpAnyH_ready (rs := [11]) (by kernel_rfl) (by simp) (AllReadyH.cons (o := { dst := some 72, op := Op.call { callee := Callee.builtin Builtin.append, args := #[Operand.tmp 61, Operand.tmp 71], argTypes := #[65, 65] }, type := 65, pos := "ref.go:153", after := #[{ on := 0, ground := Ground.data }, { on := 10, ground := Ground.data }, { on := 8, ground := Ground.chain }], guard := none }) rfl (fun K hK => ?_) AllReadyH.nil)
                refine step_append_sl (Q := [([255, 250], .slice (some ⟨gA, 0, none⟩) 2 2), (escL [o], .slice ca cn cc), (escL B, .slice da dn dc), ([255, 240], .slice (some ⟨gE, 0, none⟩) 2 2)]) (by rfl) _ _ (by rfl) HQ6.out.own (four_own RA6.out RC6.out RD6.out RE6.out) HCL.out rfl (by rfl) (by rfl) (by have := HPL.out; simp; omega) HQ6.out.old.size ?_
                intro v9 W9 hown hg
                have HZ := Lib.hid (HQ6.out.grown hown hg)
                have HB9 := Lib.hid (box_grown HQ6.out hg)
                have HO9 := Lib.hid hown
                clear hown hg
                refine hK.out _ _ ?_ (fun hHeld => ?_)
                · exact box_cells HB9.out
                clear hK K
                try simp only [Act.put, List.setIfInBounds_toArray, List.set_cons_zero, List.set_cons_succ]
                clear HQ6 RB6 RE6 RC6 RA6 RD6
                refine wpAnyH_take (i := 12) (oi := { dst := some 3, op := Op.assign (Operand.tmp 72), type := 65, pos := "ref.go:153", after := #[{ on := 11, ground := Ground.data }, { on := 11, ground := Ground.chain }, { on := 0, ground := Ground.phase }, { on := 1, ground := Ground.phase }, { on := 2, ground := Ground.phase }, { on := 3, ground := Ground.phase }, { on := 4, ground := Ground.phase }, { on := 5, ground := Ground.phase }, { on := 6, ground := Ground.phase }, { on := 7, ground := Ground.phase }, { on := 8, ground := Ground.phase }, { on := 9, ground := Ground.phase }, { on := 10, ground := Ground.phase }, { on := 11, ground := Ground.phase }], guard := none }) (v := ?_) rfl (by kernel_rfl) (by kernel_rfl) (by kernel_rfl) (fun _ _ _ h => h) (Or.inl ⟨by rfl, ?_⟩) (by assumption) ?_
                rotate_left
                focus (intro w hSw; (try dsimp only at hSw); go_simp; try (with_reducible rfl))
                try simp only [Act.put, List.setIfInBounds_toArray, List.set_cons_zero, List.set_cons_succ]
                refine wpAnyH_done (by kernel_rfl) ?_ _
                go_wp2_with fail
                go_roundw
                case rel => exact ⟨k + 1, _, by omega, by go_num, HO9.out, by rw [HTK.out, HWR.out, List.map_append, List.flatten_append, HP.out]; simp [tellL, List.append_assoc], by have := HPL.out; simp; omega, HZ.out⟩
                case measure => simp [intOf]; omega
              · rw [if_pos (by rfl)]
                go_simp
                (go_at_call 13; refine (rescape_any _ B Z3 (HU.out.below HQ3.out.old) (by have := HBL.out; omega)).mono ?_; rintro e Z4 ⟨pD, rfl, hp, t3⟩)
                go_wp2_with fail
                refine hK.out _ _ (HQ3.out.below t3).cells (fun hHeld => ?_)
                clear hK K
                try simp only [Act.put, List.setIfInBounds_toArray, List.set_cons_zero, List.set_cons_succ]
                have HQ4 := Lib.hid (HQ3.out.below t3)
                have RB4 := Lib.hid (RB3.out.below t3)
                have RE4 := Lib.hid (RE3.out.below t3)
                have RC4 := Lib.hid (RC3.out.below t3)
                have RD4 := Lib.hid (hp.lower HQ3.out.old.size)
                clear hp t3
                clear HQ3 RB3 RE3 RC3
                refine wpAnyH_ready (rs := [1]) (by kernel_rfl) (by simp) (AllReadyH.cons (o := { dst := some 62, op := Op.buildSlice 24 2 #[(0, Operand.const (Value.int IntKind.u8 255)), (1, Operand.const (Value.int IntKind.u8 250))], type := 24, pos := "ref.go:153", after := #[], guard := none }) rfl (fun K hK => ?_) AllReadyH.nil)
                rw [if_pos (by rfl)]
                go_simp
                refine hK.out _ _ (HQ4.out.below (below_alloc Z4 _)).cells (fun hHeld => ?_)
                clear hK K
                try simp only [Act.put, List.setIfInBounds_toArray, List.set_cons_zero, List.set_cons_succ]
                have t4 := below_alloc Z4 (.cells #[.int .u8 255, .int .u8 250] 5)
                have HQ5 := Lib.hid (HQ4.out.below t4)
                have RB5 := Lib.hid (RB4.out.below t4)
                have RE5 := Lib.hid (RE4.out.below t4)
                have RC5 := Lib.hid (RC4.out.below t4)
                have RD5 := Lib.hid (RD4.out.below t4)
                have RA5 := Lib.hid ((new2_own Z4 255 250).lower HQ4.out.old.size)
                obtain ⟨Z5, hZ5⟩ : ∃ Y, Y = Z4.alloc (.cells #[.int .u8 255, .int .u8 250] 5) := ⟨_, rfl⟩
                obtain ⟨gA, hgA⟩ : ∃ g, g = Z4.heap.size := ⟨_, rfl⟩
                rw [← hZ5] at HQ5 RB5 RE5 RC5 RD5 RA5 hHeld ⊢
                rw [← hgA] at RA5 ⊢
                clear t4 hZ5 hgA
                clear HQ4 RB4 RE4 RC4 RD4
                refine wpAnyH_ready (rs := [10]) (by kernel_rfl) (by simp) (AllReadyH.cons (o := { dst := some 71, op := Op.buildSlice 65 4 #[(0, Operand.tmp 62), (1, Operand.tmp 66), (2, Operand.tmp 69), (3, Operand.tmp 70)], type := 65, pos := "ref.go:153", after := #[{ on := 1, ground := Ground.data }, { on := 5, ground := Ground.data }, { on := 8, ground := Ground.data }, { on := 9, ground := Ground.data }], guard := none }) rfl (fun K hK => ?_) AllReadyH.nil)
                obtain ⟨ca, cc, rfl⟩ := row_form RC5.out
                obtain ⟨da, dc, rfl⟩ := row_form RD5.out
                obtain ⟨cn, hcn⟩ : ∃ m, m = (escL [o]).length := ⟨_, rfl⟩
                obtain ⟨dn, hdn⟩ : ∃ m, m = (escL B).length := ⟨_, rfl⟩
                rw [← hcn] at RC5 ⊢
                rw [← hdn] at RD5 ⊢
                clear hcn hdn
                rw [if_pos (by rfl)]
                go_simp
                refine hK.out _ _ (HQ5.out.below (below_alloc Z5 _)).cells (fun hHeld => ?_)
                clear hK K
                try simp only [Act.put, List.setIfInBounds_toArray, List.set_cons_zero, List.set_cons_succ]
                have t5 := below_alloc Z5 (.cells #[.slice (some ⟨gA, 0, none⟩) 2 2, .slice ca cn cc, .slice da dn dc, .slice (some ⟨gE, 0, none⟩) 2 2] 24)
                have hcl := sl_cl Z5 #[.slice (some ⟨gA, 0, none⟩) 2 2, .slice ca cn cc, .slice da dn dc, .slice (some ⟨gE, 0, none⟩) 2 2] 24
                have HQ6 := Lib.hid (HQ5.out.below t5)
                have RB6 := Lib.hid (RB5.out.below t5)
                have RE6 := Lib.hid (RE5.out.below t5)
                have RC6 := Lib.hid (RC5.out.below t5)
                have RD6 := Lib.hid (RD5.out.below t5)
                have RA6 := Lib.hid (RA5.out.below t5)
                obtain ⟨Z6, hZ6⟩ : ∃ Y, Y = Z5.alloc (.cells #[.slice (some ⟨gA, 0, none⟩) 2 2, .slice ca cn cc, .slice da dn dc, .slice (some ⟨gE, 0, none⟩) 2 2] 24) := ⟨_, rfl⟩
                obtain ⟨gF, hgF⟩ : ∃ g, g = Z5.heap.size := ⟨_, rfl⟩
                rw [← hZ6, ← hgF] at hcl
                rw [← hZ6] at HQ6 RB6 RE6 RC6 RD6 RA6 hHeld ⊢
                rw [← hgF]
                have HCL := Lib.hid hcl
                clear t5 hZ6 hgF hcl
                clear HQ5 RB5 RE5 RC5 RD5 RA5
                refine wpAnyH_ready (rs := [11]) (by kernel_rfl) (by simp) (AllReadyH.cons (o := { dst := some 72, op := Op.call { callee := Callee.builtin Builtin.append, args := #[Operand.tmp 61, Operand.tmp 71], argTypes := #[65, 65] }, type := 65, pos := "ref.go:153", after := #[{ on := 0, ground := Ground.data }, { on := 10, ground := Ground.data }, { on := 8, ground := Ground.chain }], guard := none }) rfl (fun K hK => ?_) AllReadyH.nil)
                refine step_append_sl (Q := [([255, 250], .slice (some ⟨gA, 0, none⟩) 2 2), (escL [o], .slice ca cn cc), (escL B, .slice da dn dc), ([255, 240], .slice (some ⟨gE, 0, none⟩) 2 2)]) (by rfl) _ _ (by rfl) HQ6.out.own (four_own RA6.out RC6.out RD6.out RE6.out) HCL.out rfl (by rfl) (by rfl) (by have := HPL.out; simp; omega) HQ6.out.old.size ?_
                intro v9 W9 hown hg
                have HZ := Lib.hid (HQ6.out.grown hown hg)
                have HB9 := Lib.hid (box_grown HQ6.out hg)
                have HO9 := Lib.hid hown
                clear hown hg
                refine hK.out _ _ ?_ (fun hHeld => ?_)
                · exact box_cells HB9.out
                clear hK K
                try simp only [Act.put, List.setIfInBounds_toArray, List.set_cons_zero, List.set_cons_succ]
                clear HQ6 RB6 RE6 RC6 RD6 RA6
                refine wpAnyH_take (i := 12) (oi := { dst := some 3, op := Op.assign (Operand.tmp 72), type := 65, pos := "ref.go:153", after := #[{ on := 11, ground := Ground.data }, { on := 11, ground := Ground.chain }, { on := 0, ground := Ground.phase }, { on := 1, ground := Ground.phase }, { on := 2, ground := Ground.phase }, { on := 3, ground := Ground.phase }, { on := 4, ground := Ground.phase }, { on := 5, ground := Ground.phase }, { on := 6, ground := Ground.phase }, { on := 7, ground := Ground.phase }, { on := 8, ground := Ground.phase }, { on := 9, ground := Ground.phase }, { on := 10, ground := Ground.phase }, { on := 11, ground := Ground.phase }], guard := none }) (v := ?_) rfl (by kernel_rfl) (by kernel_rfl) (by kernel_rfl) (fun _ _ _ h => h) (Or.inl ⟨by rfl, ?_⟩) (by assumption) ?_
                rotate_left
                focus (intro w hSw; (try dsimp only at hSw); go_simp; try (with_reducible rfl))
                try simp only [Act.put, List.setIfInBounds_toArray, List.set_cons_zero, List.set_cons_succ]
                refine wpAnyH_done (by kernel_rfl) ?_ _
                go_wp2_with fail
                go_roundw
                case rel => exact ⟨k + 1, _, by omega, by go_num, HO9.out, by rw [HTK.out, HWR.out, List.map_append, List.flatten_append, HP.out]; simp [tellL, List.append_assoc], by have := HPL.out; simp; omega, HZ.out⟩
                case measure => simp [intOf]; omega
        · rw [if_pos (by rfl)]
          go_simp
          refine hK.out _ _ (HQ0.out.below (below_alloc Z0 _)).cells (fun hHeld => ?_)
          clear hK K
          try simp only [Act.put, List.setIfInBounds_toArray, List.set_cons_zero, List.set_cons_succ]
          have t0 := below_alloc Z0 (.cells #[.int .u8 255, .int .u8 240] 5)
          have HQ1 := Lib.hid (HQ0.out.below t0)
          have RE1 := Lib.hid ((new2_own Z0 255 240).lower HQ0.out.old.size)
          obtain ⟨Z1, hZ1⟩ : ∃ Y, Y = Z0.alloc (.cells #[.int .u8 255, .int .u8 240] 5) := ⟨_, rfl⟩
          obtain ⟨gE, hgE⟩ : ∃ g, g = Z0.heap.size := ⟨_, rfl⟩
          rw [← hZ1] at HQ1 RE1 hHeld ⊢
          rw [← hgE] at RE1 ⊢
          clear t0 hZ1 hgE
          clear HQ0 
          refine wpAnyH_ready (rs := [1, 4]) (by kernel_rfl) (by simp) (AllReadyH.cons (o := { dst := some 62, op := Op.buildSlice 24 2 #[(0, Operand.const (Value.int IntKind.u8 255)), (1, Operand.const (Value.int IntKind.u8 250))], type := 24, pos := "ref.go:153", after := #[], guard := none }) rfl (fun K hK => ?_) (AllReadyH.cons (o := { dst := some 65, op := Op.buildSlice 24 1 #[(0, Operand.tmp 64)], type := 24, pos := "ref.go:153", after := #[{ on := 3, ground := Ground.data }], guard := none }) rfl (fun K hK => ?_) AllReadyH.nil))
          · rw [if_pos (by rfl)]
            go_simp
            refine hK.out _ _ (HQ1.out.below (below_alloc Z1 _)).cells (fun hHeld => ?_)
            clear hK K
            try simp only [Act.put, List.setIfInBounds_toArray, List.set_cons_zero, List.set_cons_succ]
            have t1 := below_alloc Z1 (.cells #[.int .u8 255, .int .u8 250] 5)
            have HQ2 := Lib.hid (HQ1.out.below t1)
            have RE2 := Lib.hid (RE1.out.below t1)
            have RA2 := Lib.hid ((new2_own Z1 255 250).lower HQ1.out.old.size)
            obtain ⟨Z2, hZ2⟩ : ∃ Y, Y = Z1.alloc (.cells #[.int .u8 255, .int .u8 250] 5) := ⟨_, rfl⟩
            obtain ⟨gA, hgA⟩ : ∃ g, g = Z1.heap.size := ⟨_, rfl⟩
            rw [← hZ2] at HQ2 RE2 RA2 hHeld ⊢
            rw [← hgA] at RA2 ⊢
            clear t1 hZ2 hgA
            clear HQ1 RE1
            refine wpAnyH_ready (rs := [4]) (by kernel_rfl) (by simp) (AllReadyH.cons (o := { dst := some 65, op := Op.buildSlice 24 1 #[(0, Operand.tmp 64)], type := 24, pos := "ref.go:153", after := #[{ on := 3, ground := Ground.data }], guard := none }) rfl (fun K hK => ?_) AllReadyH.nil)
            rw [if_pos (by rfl)]
            go_simp
            refine hK.out _ _ (HQ2.out.below (below_alloc Z2 _)).cells (fun hHeld => ?_)
            clear hK K
            try simp only [Act.put, List.setIfInBounds_toArray, List.set_cons_zero, List.set_cons_succ]
            have t2 := below_alloc Z2 (.cells #[.int .u8 o] 5)
            have HQ3 := Lib.hid (HQ2.out.below t2)
            have RE3 := Lib.hid (RE2.out.below t2)
            have RA3 := Lib.hid (RA2.out.below t2)
            have RB3 := Lib.hid ((own1 Z2 o).lower HQ2.out.old.size)
            obtain ⟨Z3, hZ3⟩ : ∃ Y, Y = Z2.alloc (.cells #[.int .u8 o] 5) := ⟨_, rfl⟩
            obtain ⟨gB, hgB⟩ : ∃ g, g = Z2.heap.size := ⟨_, rfl⟩
            rw [← hZ3] at HQ3 RE3 RA3 RB3 hHeld ⊢
            rw [← hgB] at RB3 ⊢
            clear t2 hZ3 hgB
            clear HQ2 RE2 RA2
            refine wpAnyH_ready (rs := [5]) (by kernel_rfl) (by simp) (AllReadyH.cons (o := { dst := some 66, op := Op.call { callee := Callee.value (Operand.func 13), args := #[Operand.tmp 65], argTypes := #[24] }, type := 24, pos := "ref.go:153", after := #[{ on := 4, ground := Ground.data }], guard := none }) rfl (fun K hK => ?_) AllReadyH.nil)
            rw [if_pos (by rfl)]
            go_simp
            (go_at_call 13; refine (rescape_any _ [o] Z3 RB3.out.row (by simp)).mono ?_; rintro e Z4 ⟨pC, rfl, hp, t3⟩)
            go_wp2_with fail
            refine hK.out _ _ (HQ3.out.below t3).cells (fun hHeld => ?_)
            clear hK K
            try simp only [Act.put, List.setIfInBounds_toArray, List.set_cons_zero, List.set_cons_succ]
            have HQ4 := Lib.hid (HQ3.out.below t3)
            have RE4 := Lib.hid (RE3.out.below t3)
            have RA4 := Lib.hid (RA3.out.below t3)
            have RB4 := Lib.hid (RB3.out.below t3)
            have RC4 := Lib.hid (hp.lower HQ3.out.old.size)
            clear hp t3
            clear HQ3 RE3 RA3 RB3
            refine wpAnyH_ready (rs := [8]) (by kernel_rfl) (by simp) (AllReadyH.cons (o := { dst := some 69, op := Op.call { callee := Callee.value (Operand.func 13), args := #[Operand.tmp 68], argTypes := #[24] }, type := 24, pos := "ref.go:153", after := #[{ on := 7, ground := Ground.data }, { on := 5, ground := Ground.chain }], guard := none }) rfl (fun K hK => ?_) AllReadyH.nil)
            rw [if_pos (by rfl)]
            go_simp
            (go_at_call 13; refine (rescape_any _ B Z4 (HU.out.below HQ4.out.old) (by have := HBL.out; omega)).mono ?_; rintro e Z5 ⟨pD, rfl, hp, t4⟩)
            go_wp2_with fail
            refine hK.out _ _ (HQ4.out.below t4).cells (fun hHeld => ?_)
            clear hK K
            try simp only [Act.put, List.setIfInBounds_toArray, List.set_cons_zero, List.set_cons_succ]
            have HQ5 := Lib.hid (HQ4.out.below t4)
            have RE5 := Lib.hid (RE4.out.below t4)
            have RA5 := Lib.hid (RA4.out.below t4)
            have RB5 := Lib.hid (RB4.out.below t4)
            have RC5 := Lib.hid (RC4.out.below t4)
            have RD5 := Lib.hid (hp.lower HQ4.out.old.size)
            clear hp t4
            clear HQ4 RE4 RA4 RB4 RC4
            refine wpAnyH_ready (rs := [10]) (by kernel_rfl) (by simp) (AllReadyH.cons (o := { dst := some 71, op := Op.buildSlice 65 4 #[(0, Operand.tmp 62), (1, Operand.tmp 66), (2, Operand.tmp 69), (3, Operand.tmp 70)], type := 65, pos := "ref.go:153", after := #[{ on := 1, ground := Ground.data }, { on := 5, ground := Ground.data }, { on := 8, ground := Ground.data }, { on := 9, ground := Ground.data }], guard := none }) rfl (fun K hK => ?_) AllReadyH.nil)
            obtain ⟨ca, cc, rfl⟩ := row_form RC5.out
            obtain ⟨da, dc, rfl⟩ := row_form RD5.out
            obtain ⟨cn, hcn⟩ : ∃ m, m = (escL [o]).length := ⟨_, rfl⟩
            obtain ⟨dn, hdn⟩ : ∃ m, m = (escL B).length := ⟨_, rfl⟩
            rw [← hcn] at RC5 ⊢
            rw [← hdn] at RD5 ⊢
            clear hcn hdn
            rw [if_pos (by rfl)]
            go_simp
            refine hK.out _ _ (HQ5.out.below (below_alloc Z5 _)).cells (fun hHeld => ?_)
            clear hK K
            try simp only [Act.put, List.setIfInBounds_toArray, List.set_cons_zero, List.set_cons_succ]
            have t5 := below_alloc Z5 (.cells #[.slice (some ⟨gA, 0, none⟩) 2 2, .slice ca cn cc, .slice da dn dc, .slice (some ⟨gE, 0, none⟩) 2 2] 24)
            have hcl := sl_cl Z5 #[.slice (some ⟨gA, 0, none⟩) 2 2, .slice ca cn cc, .slice da dn dc, .slice (some ⟨gE, 0, none⟩) 2 2] 24
            have HQ6 := Lib.hid (HQ5.out.below t5)
            have RE6 := Lib.hid (RE5.out.below t5)
            have RA6 := Lib.hid (RA5.out.below t5)
            have RB6 := Lib.hid (RB5.out.below t5)
            have RC6 := Lib.hid (RC5.out.below t5)
            have RD6 := Lib.hid (RD5.out.below t5)
            obtain ⟨Z6, hZ6⟩ : ∃ Y, Y = Z5.alloc (.cells #[.slice (some ⟨gA, 0, none⟩) 2 2, .slice ca cn cc, .slice da dn dc, .slice (some ⟨gE, 0, none⟩) 2 2] 24) := ⟨_, rfl⟩
            obtain ⟨gF, hgF⟩ : ∃ g, g = Z5.heap.size := ⟨_, rfl⟩
            rw [← hZ6, ← hgF] at hcl
            rw [← hZ6] at HQ6 RE6 RA6 RB6 RC6 RD6 hHeld ⊢
            rw [← hgF]
            have HCL := Lib.hid hcl
            clear t5 hZ6 hgF hcl
            clear HQ5 RE5 RA5 RB5 RC5 RD5
            refine wpAnyH_ready (rs := [11]) (by kernel_rfl) (by simp) (AllReadyH.cons (o := { dst := some 72, op := Op.call { callee := Callee.builtin Builtin.append, args := #[Operand.tmp 61, Operand.tmp 71], argTypes := #[65, 65] }, type := 65, pos := "ref.go:153", after := #[{ on := 0, ground := Ground.data }, { on := 10, ground := Ground.data }, { on := 8, ground := Ground.chain }], guard := none }) rfl (fun K hK => ?_) AllReadyH.nil)
            refine step_append_sl (Q := [([255, 250], .slice (some ⟨gA, 0, none⟩) 2 2), (escL [o], .slice ca cn cc), (escL B, .slice da dn dc), ([255, 240], .slice (some ⟨gE, 0, none⟩) 2 2)]) (by rfl) _ _ (by rfl) HQ6.out.own (four_own RA6.out RC6.out RD6.out RE6.out) HCL.out rfl (by rfl) (by rfl) (by have := HPL.out; simp; omega) HQ6.out.old.size ?_
            intro v9 W9 hown hg
            have HZ := Lib.hid (HQ6.out.grown hown hg)
            have HB9 := Lib.hid (box_grown HQ6.out hg)
            have HO9 := Lib.hid hown
            clear hown hg
            refine hK.out _ _ ?_ (fun hHeld => ?_)
            · exact box_cells HB9.out
            clear hK K
            try simp only [Act.put, List.setIfInBounds_toArray, List.set_cons_zero, List.set_cons_succ]
            clear HQ6 RE6 RA6 RB6 RC6 RD6
            refine wpAnyH_take (i := 12) (oi := { dst := some 3, op := Op.assign (Operand.tmp 72), type := 65, pos := "ref.go:153", after := #[{ on := 11, ground := Ground.data }, { on := 11, ground := Ground.chain }, { on := 0, ground := Ground.phase }, { on := 1, ground := Ground.phase }, { on := 2, ground := Ground.phase }, { on := 3, ground := Ground.phase }, { on := 4, ground := Ground.phase }, { on := 5, ground := Ground.phase }, { on := 6, ground := Ground.phase }, { on := 7, ground := Ground.phase }, { on := 8, ground := Ground.phase }, { on := 9, ground := Ground.phase }, { on := 10, ground := Ground.phase }, { on := 11, ground := Ground.phase }], guard := none }) (v := ?_) rfl (by kernel_rfl) (by kernel_rfl) (by kernel_rfl) (fun _ _ _ h => h) (Or.inl ⟨by rfl, ?_⟩) (by assumption) ?_
            rotate_left
            focus (intro w hSw; (try dsimp only at hSw); go_simp; try (with_reducible rfl))
            try simp only [Act.put, List.setIfInBounds_toArray, List.set_cons_zero, List.set_cons_succ]
            refine wpAnyH_done (by kernel_rfl) ?_ _
            go_wp2_with fail
            go_roundw
            case rel => exact ⟨k + 1, _, by omega, by go_num, HO9.out, by rw [HTK.out, HWR.out, List.map_append, List.flatten_append, HP.out]; simp [tellL, List.append_assoc], by have := HPL.out; simp; omega, HZ.out⟩
            case measure => simp [intOf]; omega
          · rw [if_pos (by rfl)]
            go_simp
            refine hK.out _ _ (HQ1.out.below (below_alloc Z1 _)).cells (fun hHeld => ?_)
            clear hK K
            try simp only [Act.put, List.setIfInBounds_toArray, List.set_cons_zero, List.set_cons_succ]
            have t1 := below_alloc Z1 (.cells #[.int .u8 o] 5)
            have HQ2 := Lib.hid (HQ1.out.below t1)
            have RE2 := Lib.hid (RE1.out.below t1)
            have RB2 := Lib.hid ((own1 Z1 o).lower HQ1.out.old.size)
            obtain ⟨Z2, hZ2⟩ : ∃ Y, Y = Z1.alloc (.cells #[.int .u8 o] 5) := ⟨_, rfl⟩
            obtain ⟨gB, hgB⟩ : ∃ g, g = Z1.heap.size := ⟨_, rfl⟩
            rw [← hZ2] at HQ2 RE2 RB2 hHeld ⊢
            rw [← hgB] at RB2 ⊢
            clear t1 hZ2 hgB
            clear HQ1 RE1
            refine wpAnyH_ready (rs := [1, 5]) (by kernel_rfl) (by simp) (AllReadyH.cons (o := { dst := some 62, op := Op.buildSlice 24 2 #[(0, Operand.const (Value.int IntKind.u8 255)), (1, Operand.const (Value.int IntKind.u8 250))], type := 24, pos := "ref.go:153", after := #[], guard := none }) rfl (fun K hK => ?_) (AllReadyH.cons (o := { dst := some 66, op := Op.call { callee := Callee.value (Operand.func 13), args := #[Operand.tmp 65], argTypes := #[24] }, type := 24, pos := "ref.go:153", after := #[{ on := 4, ground := Ground.data }], guard := none }) rfl (fun K hK => ?_) AllReadyH.nil))
            · rw [if_pos (by rfl)]
              go_simp
              refine hK.out _ _ (HQ2.out.below (below_alloc Z2 _)).cells (fun hHeld => ?_)
              clear hK K
              try simp only [Act.put, List.setIfInBounds_toArray, List.set_cons_zero, List.set_cons_succ]
              have t2 := below_alloc Z2 (.cells #[.int .u8 255, .int .u8 250] 5)
              have HQ3 := Lib.hid (HQ2.out.below t2)
              have RE3 := Lib.hid (RE2.out.below t2)
              have RB3 := Lib.hid (RB2.out.below t2)
              have RA3 := Lib.hid ((new2_own Z2 255 250).lower HQ2.out.old.size)
              obtain ⟨Z3, hZ3⟩ : ∃ Y, Y = Z2.alloc (.cells #[.int .u8 255, .int .u8 250] 5) := ⟨_, rfl⟩
              obtain ⟨gA, hgA⟩ : ∃ g, g = Z2.heap.size := ⟨_, rfl⟩
              rw [← hZ3] at HQ3 RE3 RB3 RA3 hHeld ⊢
              rw [← hgA] at RA3 ⊢
              clear t2 hZ3 hgA
              clear HQ2 RE2 RB2
              refine wpAnyH_ready (rs := [5]) (by kernel_rfl) (by simp) (AllReadyH.cons (o := { dst := some 66, op := Op.call { callee := Callee.value (Operand.func 13), args := #[Operand.tmp 65], argTypes := #[24] }, type := 24, pos := "ref.go:153", after := #[{ on := 4, ground := Ground.data }], guard := none }) rfl (fun K hK => ?_) AllReadyH.nil)
              rw [if_pos (by rfl)]
              go_simp
              (go_at_call 13; refine (rescape_any _ [o] Z3 RB3.out.row (by simp)).mono ?_; rintro e Z4 ⟨pC, rfl, hp, t3⟩)
              go_wp2_with fail
              refine hK.out _ _ (HQ3.out.below t3).cells (fun hHeld => ?_)
              clear hK K
              try simp only [Act.put, List.setIfInBounds_toArray, List.set_cons_zero, List.set_cons_succ]
              have HQ4 := Lib.hid (HQ3.out.below t3)
              have RE4 := Lib.hid (RE3.out.below t3)
              have RB4 := Lib.hid (RB3.out.below t3)
              have RA4 := Lib.hid (RA3.out.below t3)
              have RC4 := Lib.hid (hp.lower HQ3.out.old.size)
              clear hp t3
              clear HQ3 RE3 RB3 RA3
              refine wpAnyH_ready (rs := [8]) (by kernel_rfl) (by simp) (AllReadyH.cons (o := { dst := some 69, op := Op.call { callee := Callee.value (Operand.func 13), args := #[Operand.tmp 68], argTypes := #[24] }, type := 24, pos := "ref.go:153", after := #[{ on := 7, ground := Ground.data }, { on := 5, ground := Ground.chain }], guard := none }) rfl (fun K hK => ?_) AllReadyH.nil)
              rw [if_pos (by rfl)]
              go_simp
              (go_at_call 13; refine (rescape_any _ B Z4 (HU.out.below HQ4.out.old) (by have := HBL.out; omega)).mono ?_; rintro e Z5 ⟨pD, rfl, hp, t4⟩)
              go_wp2_with fail
              refine hK.out _ _ (HQ4.out.below t4).cells (fun hHeld => ?_)
              clear hK K
              try simp only [Act.put, List.setIfInBounds_toArray, List.set_cons_zero, List.set_cons_succ]
              have HQ5 := Lib.hid (HQ4.out.below t4)
              have RE5 := Lib.hid (RE4.out.below t4)
              have RB5 := Lib.hid (RB4.out.below t4)
              have RA5 := Lib.hid (RA4.out.below t4)
              have RC5 := Lib.hid (RC4.out.below t4)
              have RD5 := Lib.hid (hp.lower HQ4.out.old.size)
              clear hp t4
              clear HQ4 RE4 RB4 RA4 RC4
              refine wpAnyH_ready (rs := [10]) (by kernel_rfl) (by simp) (AllReadyH.cons (o := { dst := some 71, op := Op.buildSlice 65 4 #[(0, Operand.tmp 62), (1, Operand.tmp 66), (2, Operand.tmp 69), (3, Operand.tmp 70)], type := 65, pos := "ref.go:153", after := #[{ on := 1, ground := Ground.data }, { on := 5, ground := Ground.data }, { on := 8, ground := Ground.data }, { on := 9, ground := Ground.data }], guard := none }) rfl (fun K hK => ?_) AllReadyH.nil)
              obtain ⟨ca, cc, rfl⟩ := row_form RC5.out
              obtain ⟨da, dc, rfl⟩ := row_form RD5.out
              obtain ⟨cn, hcn⟩ : ∃ m, m = (escL [o]).length := ⟨_, rfl⟩
              obtain ⟨dn, hdn⟩ : ∃ m, m = (escL B).length := ⟨_, rfl⟩
              rw [← hcn] at RC5 ⊢
              rw [← hdn] at RD5 ⊢
              clear hcn hdn
              rw [if_pos (by rfl)]
              go_simp
              refine hK.out _ _ (HQ5.out.below (below_alloc Z5 _)).cells (fun hHeld => ?_)
              clear hK K
              try simp only [Act.put, List.setIfInBounds_toArray, List.set_cons_zero, List.set_cons_succ]
              have t5 := below_alloc Z5 (.cells #[.slice (some ⟨gA, 0, none⟩) 2 2, .slice ca cn cc, .slice da dn dc, .slice (some ⟨gE, 0, none⟩) 2 2] 24)
              have hcl := sl_cl Z5 #[.slice (some ⟨gA, 0, none⟩) 2 2, .slice ca cn cc, .slice da dn dc, .slice (some ⟨gE, 0, none⟩) 2 2] 24
              have HQ6 := Lib.hid (HQ5.out.below t5)
              have RE6 := Lib.hid (RE5.out.below t5)
              have RB6 := Lib.hid (RB5.out.below t5)
              have RA6 := Lib.hid (RA5.out.below t5)
              have RC6 := Lib.hid (RC5.out.below t5)
              have RD6 := Lib.hid (RD5.out.below t5)
              obtain ⟨Z6, hZ6⟩ : ∃ Y, Y = Z5.alloc (.cells #[.slice (some ⟨gA, 0, none⟩) 2 2, .slice ca cn cc, .slice da dn dc, .slice (some ⟨gE, 0, none⟩) 2 2] 24) := ⟨_, rfl⟩
              obtain ⟨gF, hgF⟩ : ∃ g, g = Z5.heap.size := ⟨_, rfl⟩
              rw [← hZ6, ← hgF] at hcl
              rw [← hZ6] at HQ6 RE6 RB6 RA6 RC6 RD6 hHeld ⊢
              rw [← hgF]
              have HCL := Lib.hid hcl
              clear t5 hZ6 hgF hcl
              clear HQ5 RE5 RB5 RA5 RC5 RD5
              refine wpAnyH_ready (rs := [11]) (by kernel_rfl) (by simp) (AllReadyH.cons (o := { dst := some 72, op := Op.call { callee := Callee.builtin Builtin.append, args := #[Operand.tmp 61, Operand.tmp 71], argTypes := #[65, 65] }, type := 65, pos := "ref.go:153", after := #[{ on := 0, ground := Ground.data }, { on := 10, ground := Ground.data }, { on := 8, ground := Ground.chain }], guard := none }) rfl (fun K hK => ?_) AllReadyH.nil)
              refine step_append_sl (Q := [([255, 250], .slice (some ⟨gA, 0, none⟩) 2 2), (escL [o], .slice ca cn cc), (escL B, .slice da dn dc), ([255, 240], .slice (some ⟨gE, 0, none⟩) 2 2)]) (by rfl) _ _ (by rfl) HQ6.out.own (four_own RA6.out RC6.out RD6.out RE6.out) HCL.out rfl (by rfl) (by rfl) (by have := HPL.out; simp; omega) HQ6.out.old.size ?_
              intro v9 W9 hown hg
              have HZ := Lib.hid (HQ6.out.grown hown hg)
              have HB9 := Lib.hid (box_grown HQ6.out hg)
              have HO9 := Lib.hid hown
              clear hown hg
              refine hK.out _ _ ?_ (fun hHeld => ?_)
              · exact box_cells HB9.out
              clear hK K
              try simp only [Act.put, List.setIfInBounds_toArray, List.set_cons_zero, List.set_cons_succ]
              clear HQ6 RE6 RB6 RA6 RC6 RD6
              refine wpAnyH_take (i := 12) (oi := { dst := some 3, op := Op.assign (Operand.tmp 72), type := 65, pos := "ref.go:153", after := #[{ on := 11, ground := Ground.data }, { on := 11, ground := Ground.chain }, { on := 0, ground := Ground.phase }, { on := 1, ground := Ground.phase }, { on := 2, ground := Ground.phase }, { on := 3, ground := Ground.phase }, { on := 4, ground := Ground.phase }, { on := 5, ground := Ground.phase }, { on := 6, ground := Ground.phase }, { on := 7, ground := Ground.phase }, { on := 8, ground := Ground.phase }, { on := 9, ground := Ground.phase }, { on := 10, ground := Ground.phase }, { on := 11, ground := Ground.phase }], guard := none }) (v := ?_) rfl (by kernel_rfl) (by kernel_rfl) (by kernel_rfl) (fun _ _ _ h => h) (Or.inl ⟨by rfl, ?_⟩) (by assumption) ?_
              rotate_left
              focus (intro w hSw; (try dsimp only at hSw); go_simp; try (with_reducible rfl))
              try simp only [Act.put, List.setIfInBounds_toArray, List.set_cons_zero, List.set_cons_succ]
              refine wpAnyH_done (by kernel_rfl) ?_ _
              go_wp2_with fail
              go_roundw
              case rel => exact ⟨k + 1, _, by omega, by go_num, HO9.out, by rw [HTK.out, HWR.out, List.map_append, List.flatten_append, HP.out]; simp [tellL, List.append_assoc], by have := HPL.out; simp; omega, HZ.out⟩
              case measure => simp [intOf]; omega
            · rw [if_pos (by rfl)]
              go_simp
              (go_at_call 13; refine (rescape_any _ [o] Z2 RB2.out.row (by simp)).mono ?_; rintro e Z3 ⟨pC, rfl, hp, t2⟩)
              go_wp2_with fail
              refine hK.out _ _ (HQ2.out.below t2).cells (fun hHeld => ?_)
              clear hK K
              try simp only [Act.put, List.setIfInBounds_toArray, List.set_cons_zero, List.set_cons_succ]
              have HQ3 := Lib.hid (HQ2.out.below t2)
              have RE3 := Lib.hid (RE2.out.below t2)
              have RB3 := Lib.hid (RB2.out.below t2)
              have RC3 := Lib.hid (hp.lower HQ2.out.old.size)
              clear hp t2
              clear HQ2 RE2 RB2
              refine wpAnyH_ready (rs := [1, 8]) (by kernel_rfl) (by simp) (AllReadyH.cons (o := { dst := some 62, op := Op.buildSlice 24 2 #[(0, Operand.const (Value.int IntKind.u8 255)), (1, Operand.const (Value.int IntKind.u8 250))], type := 24, pos := "ref.go:153", after := #[], guard := none }) rfl (fun K hK => ?_) (AllReadyH.cons (o := { dst := some 69, op := Op.call { callee := Callee.value (Operand.func 13), args := #[Operand.tmp 68], argTypes := #[24] }, type := 24, pos := "ref.go:153", after := #[{ on := 7, ground := Ground.data }, { on := 5, ground := Ground.chain }], guard := none }) rfl (fun K hK => ?_) AllReadyH.nil))
              · rw [if_pos (by rfl)]
                go_simp
                refine hK.out _ _ (HQ3.out.below (below_alloc Z3 _)).cells (fun hHeld => ?_)
                clear hK K
                try simp only [Act.put, List.setIfInBounds_toArray, List.set_cons_zero, List.set_cons_succ]
                have t3 := below_alloc Z3 (.cells #[.int .u8 255, .int .u8 250] 5)
                have HQ4 := Lib.hid (HQ3.out.below t3)
                have RE4 := Lib.hid (RE3.out.below t3)
                have RB4 := Lib.hid (RB3.out.below t3)
                have RC4 := Lib.hid (RC3.out.below t3)
                have RA4 := Lib.hid ((new2_own Z3 255 250).lower HQ3.out.old.size)
                obtain ⟨Z4, hZ4⟩ : ∃ Y, Y = Z3.alloc (.cells #[.int .u8 255, .int .u8 250] 5) := ⟨_, rfl⟩
                obtain ⟨gA, hgA⟩ : ∃ g, g = Z3.heap.size := ⟨_, rfl⟩
                rw [← hZ4] at HQ4 RE4 RB4 RC4 RA4 hHeld ⊢
                rw [← hgA] at RA4 ⊢
                clear t3 hZ4 hgA
                clear HQ3 RE3 RB3 RC3
                refine wpAnyH_ready (rs := [8]) (by kernel_rfl) (by simp) (AllReadyH.cons (o := { dst := some 69, op := Op.call { callee := Callee.value (Operand.func 13), args := #[Operand.tmp 68], argTypes := #[24] }, type := 24, pos := "ref.go:153", after := #[{ on := 7, ground := Ground.data }, { on := 5, ground := Ground.chain }], guard := none }) rfl (fun K hK => ?_) AllReadyH.nil)
                rw [if_pos (by rfl)]
                go_simp
                (go_at_call 13; refine (rescape_any _ B Z4 (HU.out.below HQ4.out.old) (by have := HBL.out; omega)).mono ?_; rintro e Z5 ⟨pD, rfl, hp, t4⟩)
                go_wp2_with fail
                refine hK.out _ _ (HQ4.out.below t4).cells (fun hHeld => ?_)
                clear hK K
                try simp only [Act.put, List.setIfInBounds_toArray, List.set_cons_zero, List.set_cons_succ]
                have HQ5 := Lib.hid (HQ4.out.below t4)
                have RE5 := Lib.hid (RE4.out.below t4)
                have RB5 := Lib.hid (RB4.out.below t4)
                have RC5 := Lib.hid (RC4.out.below t4)
                have RA5 := Lib.hid (RA4.out.below t4)
                have RD5 := Lib.hid (hp.lower HQ4.out.old.size)
                clear hp t4
                clear HQ4 RE4 RB4 RC4 RA4
                refine wpAnyH_ready (rs := [10]) (by kernel_rfl) (by simp) (AllReadyH.cons (o := { dst := some 71, op := Op.buildSlice 65 4 #[(0, Operand.tmp 62), (1, Operand.tmp 66), (2, Operand.tmp 69), (3, Operand.tmp 70)], type := 65, pos := "ref.go:153", after := #[{ on := 1, ground := Ground.data }, { on := 5, ground := Ground.data }, { on := 8, ground := Ground.data }, { on := 9, ground := Ground.data }], guard := none }) rfl (fun K hK => ?_) AllReadyH.nil)
                obtain ⟨ca, cc, rfl⟩ := row_form RC5.out
                obtain ⟨da, dc, rfl⟩ := row_form RD5.out
                obtain ⟨cn, hcn⟩ : ∃ m, m = (escL [o]).length := ⟨_, rfl⟩
                obtain ⟨dn, hdn⟩ : ∃ m, m = (escL B).length := ⟨_, rfl⟩
                rw [← hcn] at RC5 ⊢
                rw [← hdn] at RD5 ⊢
                clear hcn hdn
                rw [if_pos (by rfl)]
                go_simp
                refine hK.out _ _ (HQ5.out.below (below_alloc Z5 _)).cells (fun hHeld => ?_)
                clear hK K
                try simp only [Act.put, List.setIfInBounds_toArray, List.set_cons_zero, List.set_cons_succ]
                have t5 := below_alloc Z5 (.cells #[.slice (some ⟨gA, 0, none⟩) 2 2, .slice ca cn cc, .slice da dn dc, .slice (some ⟨gE, 0, none⟩) 2 2] 24)
                have hcl := sl_cl Z5 #[.slice (some ⟨gA, 0, none⟩) 2 2, .slice ca cn cc, .slice da dn dc, .slice (some ⟨gE, 0, none⟩) 2 2] 24
                have HQ6 := Lib.hid (HQ5.out.below t5)
                have RE6 := Lib.hid (RE5.out.below t5)
                have RB6 := Lib.hid (RB5.out.below t5)
                have RC6 := Lib.hid (RC5.out.below t5)
                have RA6 := Lib.hid (RA5.out.below t5)
                have RD6 := Lib.hid (RD5.out.below t5)
                obtain ⟨Z6, hZ6⟩ : ∃ Y, Y = Z5.alloc (.cells #[.slice (some ⟨gA, 0, none⟩) 2 2, .slice ca cn cc, .slice da dn dc, .slice (some ⟨gE, 0, none⟩) 2 2] 24) := ⟨_, rfl⟩
                obtain ⟨gF, hgF⟩ : ∃ g, g = Z5.heap.size := ⟨_, rfl⟩
                rw [← hZ6, ← hgF] at hcl
                rw [← hZ6] at HQ6 RE6 RB6 RC6 RA6 RD6 hHeld ⊢
                rw [← hgF]
                have HCL := Lib.hid hcl
                clear t5 hZ6 hgF hcl
                clear HQ5 RE5 RB5 RC5 RA5 RD5
                refine wpAnyH_ready (rs := [11]) (by kernel_rfl) (by simp) (AllReadyH.cons (o := { dst := some 72, op := Op.call { callee := Callee.builtin Builtin.append, args := #[Operand.tmp 61, Operand.tmp 71], argTypes := #[65, 65] }, type := 65, pos := "ref.go:153", after := #[{ on := 0, ground := Ground.data }, { on := 10, ground := Ground.data }, { on := 8, ground := Ground.chain }], guard := none }) rfl (fun K hK => ?_) AllReadyH.nil)
                refine step_append_sl (Q := [([255, 250], .slice (some ⟨gA, 0, none⟩) 2 2), (escL [o], .slice ca cn cc), (escL B, .slice da dn dc), ([255, 240], .slice (some ⟨gE, 0, none⟩) 2 2)]) (by rfl) _ _ (by rfl) HQ6.out.own (four_own RA6.out RC6.out RD6.out RE6.out) HCL.out rfl (by rfl) (by rfl) (by have := HPL.out; simp; omega) HQ6.out.old.size ?_
                intro v9 W9 hown hg
                have HZ := Lib.hid (HQ6.out.grown hown hg)
                have HB9 := Lib.hid (box_grown HQ6.out hg)
                have HO9 := Lib.hid hown
                clear hown hg
                refine hK.out _ _ ?_ (fun hHeld => ?_)
                · exact box_cells HB9.out
                clear hK K
                try simp only [Act.put, List.setIfInBounds_toArray, List.set_cons_zero, List.set_cons_succ]
                clear HQ6 RE6 RB6 RC6 RA6 RD6
                refine wpAnyH_take (i := 12) (oi := { dst := some 3, op := Op.assign (Operand.tmp 72), type := 65, pos := "ref.go:153", after := #[{ on := 11, ground := Ground.data }, { on := 11, ground := Ground.chain }, { on := 0, ground := Ground.phase }, { on := 1, ground := Ground.phase }, { on := 2, ground := Ground.phase }, { on := 3, ground := Ground.phase }, { on := 4, ground := Ground.phase }, { on := 5, ground := Ground.phase }, { on := 6, ground := Ground.phase }, { on := 7, ground := Ground.phase }, { on := 8, ground := Ground.phase }, { on := 9, ground := Ground.phase }, { on := 10, ground := Ground.phase }, { on := 11, ground := Ground.phase }], guard := none }) (v := ?_) rfl (by kernel_rfl) (by kernel_rfl) (by kernel_rfl) (fun _ _ _ h => h) (Or.inl ⟨by rfl, ?_⟩) (by assumption) ?_
                rotate_left
                focus (intro w hSw; (try dsimp only at hSw); go_simp; try (with_reducible rfl))
                try simp only [Act.put, List.setIfInBounds_toArray, List.set_cons_zero, List.set_cons_succ]
                refine wpAnyH_done (by kernel_rfl) ?_ _
                go_wp2_with fail
                go_roundw
                case rel => exact ⟨k + 1, _, by omega, by go_num, HO9.out, by rw [HTK.out, HWR.out, List.map_append, List.flatten_append, HP.out]; simp [tellL, List.append_assoc], by have := HPL.out; simp; omega, HZ.out⟩
                case measure => simp [intOf]; omega
              · rw [if_pos (by rfl)]
                go_simp
                (go_at_call 13; refine (rescape_any _ B Z3 (HU.out.below HQ3.out.old) (by have := HBL.out; omega)).mono ?_; rintro e Z4 ⟨pD, rfl, hp, t3⟩)
                go_wp2_with fail
                refine hK.out _ _ (HQ3.out.below t3).cells (fun hHeld => ?_)
                clear hK K
                try simp only [Act.put, List.setIfInBounds_toArray, List.set_cons_zero, List.set_cons_succ]
                have HQ4 := Lib.hid (HQ3.out.below t3)
                have RE4 := Lib.hid (RE3.out.below t3)
                have RB4 := Lib.hid (RB3.out.below t3)
                have RC4 := Lib.hid (RC3.out.below t3)
                have RD4 := Lib.hid (hp.lower HQ3.out.old.size)
                clear hp t3
                clear HQ3 RE3 RB3 RC3
                refine wpAnyH_ready (rs := [1]) (by kernel_rfl) (by simp) (AllReadyH.cons (o := { dst := some 62, op := Op.buildSlice 24 2 #[(0, Operand.const (Value.int IntKind.u8 255)), (1, Operand.const (Value.int IntKind.u8 250))], type := 24, pos := "ref.go:153", after := #[], guard := none }) rfl (fun K hK => ?_) AllReadyH.nil)
                rw [if_pos (by rfl)]
                go_simp
                refine hK.out _ _ (HQ4.out.below (below_alloc Z4 _)).cells (fun hHeld => ?_)
                clear hK K
                try simp only [Act.put, List.setIfInBounds_toArray, List.set_cons_zero, List.set_cons_succ]
                have t4 := below_alloc Z4 (.cells #[.int .u8 255, .int .u8 250] 5)
                have HQ5 := Lib.hid (HQ4.out.below t4)
                have RE5 := Lib.hid (RE4.out.below t4)
                have RB5 := Lib.hid (RB4.out.below t4)
                have RC5 := Lib.hid (RC4.out.below t4)
                have RD5 := Lib.hid (RD4.out.below t4)
                have RA5 := Lib.hid ((new2_own Z4 255 250).lower HQ4.out.old.size)
                obtain ⟨Z5, hZ5⟩ : ∃ Y, Y = Z4.alloc (.cells #[.int .u8 255, .int .u8 250] 5) := ⟨_, rfl⟩
                obtain ⟨gA, hgA⟩ : ∃ g, g = Z4.heap.size := ⟨_, rfl⟩
                rw [← hZ5] at HQ5 RE5 RB5 RC5 RD5 RA5 hHeld ⊢
                rw [← hgA] at RA5 ⊢
                clear t4 hZ5 hgA
                clear HQ4 RE4 RB4 RC4 RD4
                refine wpAnyH_ready (rs := [10]) (by kernel_rfl) (by simp) (AllReadyH.cons (o := { dst := some 71, op := Op.buildSlice 65 4 #[(0, Operand.tmp 62), (1, Operand.tmp 66), (2, Operand.tmp 69), (3, Operand.tmp 70)], type := 65, pos := "ref.go:153", after := #[{ on := 1, ground := Ground.data }, { on := 5, ground := Ground.data }, { on := 8, ground := Ground.data }, { on := 9, ground := Ground.data }], guard := none }) rfl (fun K hK => ?_) AllReadyH.nil)
                obtain ⟨ca, cc, rfl⟩ := row_form RC5.out
                obtain ⟨da, dc, rfl⟩ := row_form RD5.out
                obtain ⟨cn, hcn⟩ : ∃ m, m = (escL [o]).length := ⟨_, rfl⟩
                obtain ⟨dn, hdn⟩ : ∃ m, m = (escL B).length := ⟨_, rfl⟩
                rw [← hcn] at RC5 ⊢
                rw [← hdn] at RD5 ⊢
                clear hcn hdn
                rw [if_pos (by rfl)]
                go_simp
                refine hK.out _ _ (HQ5.out.below (below_alloc Z5 _)).cells (fun hHeld => ?_)
                clear hK K
                try simp only [Act.put, List.setIfInBounds_toArray, List.set_cons_zero, List.set_cons_succ]
                have t5 := below_alloc Z5 (.cells #[.slice (some ⟨gA, 0, none⟩) 2 2, .slice ca cn cc, .slice da dn dc, .slice (some ⟨gE, 0, none⟩) 2 2] 24)
                have hcl := sl_cl Z5 #[.slice (some ⟨gA, 0, none⟩) 2 2, .slice ca cn cc, .slice da dn dc, .slice (some ⟨gE, 0, none⟩) 2 2] 24
                have HQ6 := Lib.hid (HQ5.out.below t5)
                have RE6 := Lib.hid (RE5.out.below t5)
                have RB6 := Lib.hid (RB5.out.below t5)
                have RC6 := Lib.hid (RC5.out.below t5)
                have RD6 := Lib.hid (RD5.out.below t5)
                have RA6 := Lib.hid (RA5.out.below t5)
                obtain ⟨Z6, hZ6⟩ : ∃ Y, Y = Z5.alloc (.cells #[.slice (some ⟨gA, 0, none⟩) 2 2, .slice ca cn cc, .slice da dn dc, .slice (some ⟨gE, 0, none⟩) 2 2] 24) := ⟨_, rfl⟩
                obtain ⟨gF, hgF⟩ : ∃ g, g = Z5.heap.size := ⟨_, rfl⟩
                rw [← hZ6, ← hgF] at hcl
                rw [← hZ6] at HQ6 RE6 RB6 RC6 RD6 RA6 hHeld ⊢
                rw [← hgF]
                have HCL := Lib.hid hcl
                clear t5 hZ6 hgF hcl
                clear HQ5 RE5 RB5 RC5 RD5 RA5
                refine wpAnyH_ready (rs := [11]) (by kernel_rfl) (by simp) (AllReadyH.cons (o := { dst := some 72, op := Op.call { callee := Callee.builtin Builtin.append, args := #[Operand.tmp 61, Operand.tmp 71], argTypes := #[65, 65] }, type := 65, pos := "ref.go:153", after := #[{ on := 0, ground := Ground.data }, { on := 10, ground := Ground.data }, { on := 8, ground := Ground.chain }], guard := none }) rfl (fun K hK => ?_) AllReadyH.nil)
                refine step_append_sl (Q := [([255, 250], .slice (some ⟨gA, 0, none⟩) 2 2), (escL [o], .slice ca cn cc), (escL B, .slice da dn dc), ([255, 240], .slice (some ⟨gE, 0, none⟩) 2 2)]) (by rfl) _ _ (by rfl) HQ6.out.own (four_own RA6.out RC6.out RD6.out RE6.out) HCL.out rfl (by rfl) (by rfl) (by have := HPL.out; simp; omega) HQ6.out.old.size ?_
                intro v9 W9 hown hg
                have HZ := Lib.hid (HQ6.out.grown hown hg)
                have HB9 := Lib.hid (box_grown HQ6.out hg)
                have HO9 := Lib.hid hown
                clear hown hg
                refine hK.out _ _ ?_ (fun hHeld => ?_)
                · exact box_cells HB9.out
                clear hK K
                try simp only [Act.put, List.setIfInBounds_toArray, List.set_cons_zero, List.set_cons_succ]
                clear HQ6 RE6 RB6 RC6 RD6 RA6
                refine wpAnyH_take (i := 12) (oi := { dst := some 3, op := Op.assign (Operand.tmp 72), type := 65, pos := "ref.go:153", after := #[{ on := 11, ground := Ground.data }, { on := 11, ground := Ground.chain }, { on := 0, ground := Ground.phase }, { on := 1, ground := Ground.phase }, { on := 2, ground := Ground.phase }, { on := 3, ground := Ground.phase }, { on := 4, ground := Ground.phase }, { on := 5, ground := Ground.phase }, { on := 6, ground := Ground.phase }, { on := 7, ground := Ground.phase }, { on := 8, ground := Ground.phase }, { on := 9, ground := Ground.phase }, { on := 10, ground := Ground.phase }, { on := 11, ground := Ground.phase }], guard := none }) (v := ?_) rfl (by kernel_rfl) (by kernel_rfl) (by kernel_rfl) (fun _ _ _ h => h) (Or.inl ⟨by rfl, ?_⟩) (by assumption) ?_
                rotate_left
                focus (intro w hSw; (try dsimp only at hSw); go_simp; try (with_reducible rfl))
                try simp only [Act.put, List.setIfInBounds_toArray, List.set_cons_zero, List.set_cons_succ]
                refine wpAnyH_done (by kernel_rfl) ?_ _
                go_wp2_with fail
                go_roundw
                case rel => exact ⟨k + 1, _, by omega, by go_num, HO9.out, by rw [HTK.out, HWR.out, List.map_append, List.flatten_append, HP.out]; simp [tellL, List.append_assoc], by have := HPL.out; simp; omega, HZ.out⟩
                case measure => simp [intOf]; omega
    · obtain rfl : n = k := by omega
      rw [List.take_of_length_le (by rw [← HN.out]; exact Nat.le_refl _)] at hP
      have HO := Lib.hid hO
      have HP := Lib.hid hP
      have HOLD := Lib.hid hold
      have HPL := Lib.hid hPl
      clear hO hP hold hPl
      go_wp2_with fail
      refine (rjoin_any _ (P.map (·.1)) wr HO.out.rows (by have := HPL.out; simp; omega) (by rw [HP.out]; exact HL.out)).mono ?_
      rintro e w9 ⟨p, rfl, hp, b9⟩
      have HPP := Lib.hid (hp.lower HOLD.out.size)
      have HB9 := Lib.hid (HOLD.out.trans (b9.mono HOLD.out.size))
      clear hp b9
      go_wp2_with fail
      go_ret
      exact ⟨_, rfl, by rw [← HP.out]; exact HPP.out, HB9.out⟩
end Go.Proofs.Ytimidoaafllnkaa.Iac
