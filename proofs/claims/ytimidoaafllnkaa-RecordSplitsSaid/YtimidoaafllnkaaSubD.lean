/-
  The reference's All: its contract.
-/
import Derived.Test.YtimidoaafllnkaaSubC
import Derived.Test.YtimidoaafllnkaaRecE
namespace Go.Proofs.Ytimidoaafllnkaa.Iac
open Go.RowKit Base Rec
set_option linter.unusedVariables false
set_option linter.unusedSimpArgs false

theorem own_low {s s' : Nat} {w : World} {u : Value} {L : List Int} (h : OwnBytes s' w u L) (hs : s ≤ s') : OwnBytes s w u L := by
  obtain ⟨h1, h2 | ⟨g, cap, cur, e, hg, r⟩⟩ := h
  · exact ⟨h1, .inl h2⟩
  · exact ⟨h1, .inr ⟨g, cap, cur, e, by omega, r⟩⟩
theorem rsub_at (v : Value) (b : List Int) (a0 : Nat) (i : Int) (w : World) (hi : i = (a0 : Nat)) (h : RowOf .u8 w v b) (hl : b.length ≤ 40000) (ha : a0 ≤ b.length) : Calls Try.prog 117 #[v, .int .i64 i] w (SubP b a0 w) := by
  subst hi
  exact rsub_any v b a0 w h hl ha
theorem Few.mono {n m : Nat} {R : List Ev} (h : Few n R) (hm : n ≤ m) : Few m R := ⟨by have := h.1; omega, by have := h.2.1; omega, fun e he => by have := h.2.2 e he; omega⟩
theorem rmore {s n : Nat} {w w1 : World} {va : Option Addr} {vc : Nat} {v' u : Value} {P : List EvP} {e : Ev} (h : ROwn s w (.slice va n vc) P) (hn : n = P.length) (hs : s ≤ w.heap.size) (hu : RB s w u e.bytes)
    (hown : w1.ownsRow s 32 4 v' (n + 1) (evC P ++ [.int .i64 e.kind, .int .u8 e.code, .int .u8 e.option, u]))
    (hg : (w.alloc (.cells #[.int .i64 e.kind, .int .u8 e.code, .int .u8 e.option, u] 32)).grownBy w1 (Value.ownBlock (.slice va n vc))) : ROwn s w1 v' (P ++ [(e, u)]) ∧ Below s w w1 := by
  have hbA := below_alloc w (.cells #[.int .i64 e.kind, .int .u8 e.code, .int .u8 e.option, u] 32)
  exact ⟨(h.below hbA).more (e := e) (hu.below hbA) (by rw [← hn]; exact hown) hg, (hbA.mono hs).grown hg (by rw [World.size_alloc]; omega) (row_first h.row)⟩
theorem rbox {g : Nat} {w w1 : World} {v a b c d : Value} {o : Obj} (h : w.heap[g]? = some (Obj.cells #[a, b, c, d] 32 (0, 0))) (hne : v.ownBlock ≠ some g) (hg : (w.alloc o).grownBy w1 v.ownBlock) : w1.cell? ⟨g, 0, none⟩ = some a := by
  have h1 : w1.heap[g]? = some (Obj.cells #[a, b, c, d] 32 (0, 0)) := (hg.block g (by rw [World.size_alloc]; have := lt_of_block h; omega) fun e => hne e.symm).trans ((Below.heap_alloc w o g (lt_of_block h)).trans h)
  simp [World.cell?, h1]
def AllQ (b : List Int) (s n : Nat) (w : World) (v i h : Value) (wr : World) : Prop :=
  ∃ (p : Nat) (P : List EvP) (bh : Bool), p ≤ n ∧ i = .int .i64 p ∧ h = .bool bh ∧ ROwn s wr v P ∧ Few p (P.map (·.1)) ∧ AllRel b p bh (P.map (·.1)) ∧ Below s w wr
set_option maxRecDepth 100000 in
set_option maxHeartbeats 16000000 in
theorem rall5_any (v : Value) (b : List Int) (w : World) (h : RowOf .u8 w v b) (hl : b.length ≤ 3000) (hbyte : ∀ x ∈ b, x ≤ 255) :
    Calls Try.prog 96 #[v] w (RAllP b w) := by
  obtain ⟨i0, hi, hz0, hz1, hz2⟩ := info_parts info_revent
  have HROW := Lib.hid h
  obtain ⟨a, cap, rfl, hrow⟩ := h
  obtain ⟨n, hn⟩ : ∃ n, n = b.length := ⟨_, rfl⟩
  obtain ⟨s, hs⟩ : ∃ s, s = w.heap.size := ⟨_, rfl⟩
  rw [← hn] at hl HROW ⊢
  have HN := Lib.hid hn
  have HR := Lib.hid hrow
  have HS := Lib.hid hs
  have HBY := Lib.hid hbyte
  have H0 := Lib.hid (rev0 (s := s) (w := w) (by omega))
  have HB0 := Lib.hid ((below_alloc w (.cells #[] 32)).mono (Nat.le_of_eq hs))
  clear hn hrow hs hbyte
  go_enter Try.func96, Try.ntmps96
  go_wp2_with fail
  go_loopw [4, 5, 6] (fun v i h wr => AllQ b s n w v i h wr) (fun _ i _ _ => n - (intOf i).toNat)
  case atStart => exact ⟨0, [], false, by omega, rfl, rfl, ⟨H0.out, by simp⟩, Few.start, AllRel.start, HB0.out⟩
  case round =>
    obtain ⟨p, P, bh, hpn, rfl, rfl, hE, hF, hR, hold⟩ := hrel
    have hsz : s ≤ wr.heap.size := by have := hold.size; have := HS.out; omega
    obtain ⟨va, vc, rfl⟩ := row_form hE.row
    obtain ⟨m, hm⟩ : ∃ m, m = P.length := ⟨_, rfl⟩
    have hmn : m ≤ 3000 := by have := hF.1; simp at this; omega
    have hraw := hE.row
    rw [← hm] at hE hraw ⊢
    have HM0 := Lib.hid hm
    have HE := Lib.hid hE
    have HF := Lib.hid hF
    have HRL := Lib.hid hR
    have HOLD := Lib.hid hold
    have HRAW := Lib.hid hraw
    have hp0 : (0 : Int) ≤ (p : Int) := Int.natCast_nonneg _
    clear hE hF hR hold hraw hm HB0 H0
    by_cases hpl : p < n
    · have hpi : (p : Int) < (n : Int) := by omega
      obtain ⟨g, off, rfl, hcc⟩ := HR.out (by intro e; have := HN.out; rw [e] at this; simp at this; omega)
      have CELL : Hid (∀ (p : Nat) (x : Int) (W : World), b[p]? = some x → Below s w W → W.cell? ⟨g, off + p, none⟩ = some (.int .u8 x)) := Lib.hid fun p x W hx hb => by
        have hp := (List.getElem?_eq_some_iff.1 hx).1
        have h1 := hcc p hp
        rw [hx] at h1
        exact (hb.cell (p := ⟨g, off + p, none⟩) (by rw [HS.out]; exact World.block_lt_of_cell? w ⟨g, off + p, none⟩ h1)).trans h1
      clear hcc
      have hw0 : IntKind.i64.wrap ((p : Int) + 1) = (p : Int) + 1 := IntWalk.i64_in _ (by omega)
      cases bh with
      | true =>
        obtain ⟨c, hc, hcn, hmid⟩ := HRL.out.behind
        have dc := CELL.out p c wr hc HOLD.out
        have hc5 := HBY.out c (List.mem_of_getElem? hc)
        have hpi2 : ¬ (n : Int) ≤ (p : Int) := by omega
        have MID := Lib.hid hmid
        clear hc hmid hcn HRL
        have hq0 : (0 : Int) ≤ ((p : Int) + 1) := by omega
        have hw1 : IntKind.i64.wrap (((p : Int) + 1) + 1) = ((p : Int) + 1) + 1 := IntWalk.i64_in _ (by omega)
        have HQN : Hid ((p + 1 : Nat) ≤ n) := Lib.hid (by omega)
        by_cases c255 : c = 255
        · have t1 : (c == 255) = true := by simpa using c255
          have REL : Hid (AllRel b (p + 1) false (addL (P.map (·.1)) ⟨1, 0, 0, [255]⟩)) := Lib.hid (by have := MID.out; rw [c255] at this; exact this.twice)
          clear c255 hw1
          have HE2 := Lib.hid (HE.out.below (below_alloc wr (.cells #[.int .u8 255] 5)))
          have HU2 := Lib.hid (lit1 (s := s) wr hsz 255)
          go_wp2_with fail
          refine (radd_any s _ P ⟨1, 0, 0, [255]⟩ _ _ _ _ HE2.out (.inr HU2.out) (by rw [World.size_alloc]; omega) (by have := HF.out.1; simp at this; omega) (fun y hy => by have := HF.out.2.2 y.1 (List.mem_map_of_mem hy); omega) (by simp)).mono ?_
          rintro e' w5 ⟨v5, P5, rfl, hE5, hP5, hb5⟩
          have HE5 := Lib.hid hE5
          have HB5 := Lib.hid (HOLD.out.trans (((below_alloc wr (.cells #[.int .u8 255] 5)).mono hsz).trans hb5))
          have HR5 : Hid (AllRel b (p + 1) false (P5.map (·.1)) ∧ Few (p + 1) (P5.map (·.1))) := Lib.hid (by rw [hP5]; exact ⟨REL.out, HF.out.add (by omega) _⟩)
          clear hE5 hP5 hb5
          go_wp2_with fail
          go_roundw
          case rel => exact ⟨p + 1, P5, false, by omega, by go_num, rfl, HE5.out, HR5.out.2, HR5.out.1, HB5.out⟩
          case measure => simp [intOf]; omega
        have t1 : (c == 255) = false := by simpa using c255
        have C255 := Lib.hid c255
        clear c255
        by_cases c239 : c = 239
        · have t2 : (c == 239) = true := by simpa using c239
          have REL : Hid (AllRel b (p + 1) false (P.map (·.1) ++ [⟨2, 0, 0, []⟩])) := Lib.hid (by have := MID.out; rw [c239] at this; exact this.ends)
          clear c239 hw1
          go_wp2_with (at_builtin; refine wpList_append_own _ rfl _ _ 33 rfl s 32 i0 (.agg #[.int .i64 0, .int .u8 0, .int .u8 0, .slice none 0 0]) 4 40 Try.underlying33 hi hz0 hz1 hz2 rfl (by decide) _ _ _ rfl (HRAW.out.alloc _) ⟨wr.heap.size, 0, none⟩ 1 1 [.int .i64 2, .int .u8 0, .int .u8 0, .slice none 0 0] rfl rfl (rev_cl wr 2 0 0 (.slice none 0 0)) (by simp [Value.oneCell']) (by unfold maxLen; omega) (by omega) (by rw [World.size_alloc]; omega) ?_; intro v5 w5 hown5 hgrow5 _; have HM := Lib.hid (rmore (e := ⟨2, 0, 0, []⟩) HE.out HM0.out hsz (.inr (own_nil _ _)) hown5 hgrow5); clear hown5 hgrow5)
          have HR5 := Lib.hid (show AllRel b (p + 1) false _ ∧ Few (p + 1) _ from ⟨REL.out, HF.out.more (e := ⟨2, 0, 0, []⟩) (by omega) (by simp)⟩)
          go_roundw
          case rel => exact ⟨p + 1, P ++ [(⟨2, 0, 0, []⟩, .slice none 0 0)], false, by omega, by go_num, rfl, HM.out.1, by rw [List.map_append]; exact HR5.out.2, by rw [List.map_append]; exact HR5.out.1, HOLD.out.trans HM.out.2⟩
          case measure => simp [intOf]; omega
        have t2 : (c == 239) = false := by simpa using c239
        have C239 := Lib.hid c239
        clear c239
        by_cases c251 : 251 ≤ c
        · have hv := Lib.hid (MID.out.verb c251 (by have := C255.out; omega))
          by_cases hqn : n ≤ p + 1
          · have hqi : (n : Int) ≤ ((p : Int) + 1) := by omega
            go_wp2_with fail
            go_ret2
            exact ⟨_, P, true, rfl, by rw [← HS.out]; exact HE.out, HF.out.mono (by rw [← HN.out]; omega), by rw [← HS.out]; exact HOLD.out, fun _ => hv.out.1 (by rw [← HN.out]; exact hqn), fun h => by cases h⟩
          · have hqi : ¬ (n : Int) ≤ ((p : Int) + 1) := by omega
            obtain ⟨y, hy⟩ : ∃ y, b[p + 1]? = some y := ⟨_, List.getElem?_eq_getElem (by rw [← HN.out]; omega)⟩
            have dy := CELL.out (p + 1) y wr hy HOLD.out
            have REL : Hid (AllRel b (p + 1 + 1) false (P.map (·.1) ++ [⟨4, c, y, []⟩])) := Lib.hid (hv.out.2 y hy)
            have hqe : (((p : Int) + 1)).toNat = p + 1 := by omega
            clear hy
            go_wp2_with (at_builtin; refine wpList_append_own _ rfl _ _ 33 rfl s 32 i0 (.agg #[.int .i64 0, .int .u8 0, .int .u8 0, .slice none 0 0]) 4 40 Try.underlying33 hi hz0 hz1 hz2 rfl (by decide) _ _ _ rfl (HRAW.out.alloc _) ⟨wr.heap.size, 0, none⟩ 1 1 [.int .i64 4, .int .u8 c, .int .u8 y, .slice none 0 0] rfl rfl (rev_cl wr 4 c y (.slice none 0 0)) (by simp [Value.oneCell']) (by unfold maxLen; omega) (by omega) (by rw [World.size_alloc]; omega) ?_; intro v5 w5 hown5 hgrow5 _; have HM := Lib.hid (rmore (e := ⟨4, c, y, []⟩) HE.out HM0.out hsz (.inr (own_nil _ _)) hown5 hgrow5); clear hown5 hgrow5)
            have HR5 := Lib.hid (show AllRel b (p + 1 + 1) false _ ∧ Few (p + 1 + 1) _ from ⟨REL.out, HF.out.more (e := ⟨4, c, y, []⟩) (by omega) (by simp)⟩)
            go_roundw
            case rel => exact ⟨p + 1 + 1, P ++ [(⟨4, c, y, []⟩, .slice none 0 0)], false, by omega, by go_num, rfl, HM.out.1, by rw [List.map_append]; exact HR5.out.2, by rw [List.map_append]; exact HR5.out.1, HOLD.out.trans HM.out.2⟩
            case measure => simp [intOf]; omega
        have h251 : ¬ (251 : Int) ≤ c := c251
        by_cases c250 : c = 250
        · have t3 : (c == 250) = true := by simpa using c250
          have MID2 : Hid (Mid b (p + 1) 250 (P.map (·.1))) := Lib.hid (by have := MID.out; rwa [c250] at this)
          clear c250
          go_wp2_with fail
          refine (rsub_at _ b (p + 1) _ wr (by omega) (HROW.out.below (by rw [← HS.out]; exact HOLD.out)) (by rw [← HN.out]; omega) (by rw [← HN.out]; exact HQN.out)).mono ?_
          rintro e' w2 ⟨kd, opt, u, nx, Lb, rfl, hu, hLb, hb2, hso⟩
          obtain ⟨ua, uc, rfl⟩ := row_form hu
          obtain ⟨ul, hul⟩ : ∃ ul, ul = Lb.length := ⟨_, rfl⟩
          rw [← hul] at hu hLb ⊢
          have HUL := Lib.hid hul
          have HU := Lib.hid hu
          have HB2 := Lib.hid hb2
          have hcase := MID2.out.sub (o := opt) (L := Lb) hso
          clear hso hu hul hb2
          rcases hcase with ⟨h0, hst⟩ | ⟨h1, h2, hrel⟩
          · subst h0
            have HST := Lib.hid hst
            clear hst
            go_wp2_with fail
            go_ret2
            exact ⟨_, P, true, rfl, by rw [← HS.out]; exact (HE.out.below HB2.out).below (below_alloc _ _), HF.out.mono (by rw [← HN.out]; omega), by rw [← HS.out]; exact HOLD.out.trans ((HB2.out.mono hsz).trans ((below_alloc _ _).mono (by have := HB2.out.size; omega))), fun _ => HST.out, fun h => by cases h⟩
          · have hnx0 : ((nx : Int) == 0) = false := by simp; omega
            have HREL := Lib.hid hrel
            clear hrel
            have hsz2 : s ≤ w2.heap.size := by have := HB2.out.size; omega
            obtain ⟨W6, hW6⟩ : ∃ W, W = w2.alloc (.cells #[.int .i64 kd, .int .u8 0, .int .u8 opt, .slice ua ul uc] 32) := ⟨_, rfl⟩
            obtain ⟨g6, hg6⟩ : ∃ g, g = w2.heap.size := ⟨_, rfl⟩
            have hb6 := below_alloc w2 (.cells #[.int .i64 kd, .int .u8 0, .int .u8 opt, .slice ua ul uc] 32)
            have hn6 := heap_alloc_new w2 (.cells #[.int .i64 kd, .int .u8 0, .int .u8 opt, .slice ua ul uc] 32)
            have hz6 : s ≤ W6.heap.size := by rw [hW6, World.size_alloc]; omega
            rw [← hW6] at hb6 hn6
            rw [← hg6] at hn6
            have d0 : W6.cell? ⟨g6, 0, none⟩ = some (.int .i64 kd) := by simp [World.cell?, hn6]
            have d1 : W6.cell? ⟨g6, 1, none⟩ = some (.int .u8 0) := by simp [World.cell?, hn6]
            have d2 : W6.cell? ⟨g6, 2, none⟩ = some (.int .u8 opt) := by simp [World.cell?, hn6]
            have d3 : W6.cell? ⟨g6, 3, none⟩ = some (.slice ua ul uc) := by simp [World.cell?, hn6]
            have HG6 : Hid (Value.ownBlock (.slice va m vc) ≠ some g6) := Lib.hid fun e => by
              have := (World.ownsRow.lt HE.out.row g6 e).2
              have := HB2.out.size
              omega
            have HE6 := Lib.hid ((HE.out.below HB2.out).below hb6)
            have HU6 : Hid (RB s W6 (.slice ua ul uc) Lb) := Lib.hid (.inr (own_low (HU.out.below hb6) hsz))
            have HO6 := Lib.hid (HOLD.out.trans ((HB2.out.mono hsz).trans (hb6.mono hsz2)))
            have HRAW6 := Lib.hid HE6.out.row
            rw [← HM0.out] at HRAW6
            have HB6 := Lib.hid hn6
            have HW6 := Lib.hid hW6.symm
            have HGE := Lib.hid hg6.symm
            clear hb6 hn6 hW6 hg6
            go_upto_region 28 with fail
            rw [HW6.out, HGE.out]
            go_wp2_with (at_builtin; refine wpList_append_own _ rfl _ _ 33 rfl s 32 i0 (.agg #[.int .i64 0, .int .u8 0, .int .u8 0, .slice none 0 0]) 4 40 Try.underlying33 hi hz0 hz1 hz2 rfl (by decide) _ _ _ rfl (HRAW6.out.alloc _) ⟨W6.heap.size, 0, none⟩ 1 1 [.int .i64 kd, .int .u8 0, .int .u8 opt, .slice ua ul uc] rfl rfl (rev_cl W6 kd 0 opt (.slice ua ul uc)) (by simp [Value.oneCell']) (by unfold maxLen; omega) (by omega) (by rw [World.size_alloc]; omega) ?_; intro v5 w5 hown5 hgrow5 _; have HM := Lib.hid (rmore (e := ⟨kd, 0, opt, Lb⟩) HE6.out HM0.out hz6 HU6.out hown5 hgrow5); have d5 : w5.cell? ⟨g6, 0, none⟩ = some (.int .i64 kd) := rbox HB6.out HG6.out hgrow5; clear hown5 hgrow5)
            have HR5 := Lib.hid (show AllRel b nx (kd == 7) _ ∧ Few nx _ from ⟨HREL.out, HF.out.more (e := ⟨kd, 0, opt, Lb⟩) (by omega) (by have := HUL.out; show Lb.length ≤ 256; omega)⟩)

            go_roundw
            case rel => exact ⟨nx, P ++ [(⟨kd, 0, opt, Lb⟩, .slice ua ul uc)], (kd == 7), by have := HN.out; omega, by go_num, rfl, HM.out.1, by rw [List.map_append]; exact HR5.out.2, by rw [List.map_append]; exact HR5.out.1, HO6.out.trans HM.out.2⟩
            case measure => simp [intOf]; omega
        have t3 : (c == 250) = false := by simpa using c250
        have REL : Hid (AllRel b (p + 1) false (P.map (·.1) ++ [⟨3, c, 0, []⟩])) := Lib.hid (MID.out.other C255.out C239.out c250 (by omega))
        clear c250 hw1
        go_wp2_with (at_builtin; refine wpList_append_own _ rfl _ _ 33 rfl s 32 i0 (.agg #[.int .i64 0, .int .u8 0, .int .u8 0, .slice none 0 0]) 4 40 Try.underlying33 hi hz0 hz1 hz2 rfl (by decide) _ _ _ rfl (HRAW.out.alloc _) ⟨wr.heap.size, 0, none⟩ 1 1 [.int .i64 3, .int .u8 c, .int .u8 0, .slice none 0 0] rfl rfl (rev_cl wr 3 c 0 (.slice none 0 0)) (by simp [Value.oneCell']) (by unfold maxLen; omega) (by omega) (by rw [World.size_alloc]; omega) ?_; intro v5 w5 hown5 hgrow5 _; have HM := Lib.hid (rmore (e := ⟨3, c, 0, []⟩) HE.out HM0.out hsz (.inr (own_nil _ _)) hown5 hgrow5); clear hown5 hgrow5)
        have HR5 := Lib.hid (show AllRel b (p + 1) false _ ∧ Few (p + 1) _ from ⟨REL.out, HF.out.more (e := ⟨3, c, 0, []⟩) (by omega) (by simp)⟩)
        go_roundw
        case rel => exact ⟨p + 1, P ++ [(⟨3, c, 0, []⟩, .slice none 0 0)], false, by omega, by go_num, rfl, HM.out.1, by rw [List.map_append]; exact HR5.out.2, by rw [List.map_append]; exact HR5.out.1, HOLD.out.trans HM.out.2⟩
        case measure => simp [intOf]; omega
      | false =>
        obtain ⟨x, hx⟩ : ∃ x, b[p]? = some x := ⟨_, List.getElem?_eq_getElem (by rw [← HN.out]; exact hpl)⟩
        have dx := CELL.out p x wr hx HOLD.out
        by_cases x255 : x = 255
        · have tx : (x != 255) = false := by simp [x255]
          have hmk := HRL.out.mark (by rw [hx, x255])
          clear x255 hx HRL
          by_cases hpe : n ≤ p + 1
          · have hpi2 : (n : Int) ≤ (p : Int) + 1 := by omega
            have HST := Lib.hid (hmk.1 (by rw [← HN.out]; exact hpe))
            clear hmk
            go_wp2_with fail
            go_ret2
            exact ⟨_, P, true, rfl, by rw [← HS.out]; exact HE.out, HF.out.mono (by rw [← HN.out]; omega), by rw [← HS.out]; exact HOLD.out, fun _ => HST.out, fun h => by cases h⟩
          · have hpi2 : ¬ (n : Int) ≤ (p : Int) + 1 := by omega
            obtain ⟨c, hc⟩ : ∃ c, b[p + 1]? = some c := ⟨_, List.getElem?_eq_getElem (by rw [← HN.out]; omega)⟩
            have dc := CELL.out (p + 1) c wr hc HOLD.out
            have hc5 := HBY.out c (List.mem_of_getElem? hc)
            have MID := Lib.hid (hmk.2 c hc)
            have e1 : ((p : Int) + 1).toNat = p + 1 := by omega
            have hw2 : IntKind.i64.wrap ((p : Int) + 1 + 1) = (p : Int) + 1 + 1 := IntWalk.i64_in _ (by omega)
            clear hc hmk
            have hq0 : (0 : Int) ≤ ((p : Int) + 1 + 1) := by omega
            have hw1 : IntKind.i64.wrap (((p : Int) + 1 + 1) + 1) = ((p : Int) + 1 + 1) + 1 := IntWalk.i64_in _ (by omega)
            have HQN : Hid ((p + 2 : Nat) ≤ n) := Lib.hid (by omega)
            by_cases c255 : c = 255
            · have t1 : (c == 255) = true := by simpa using c255
              have REL : Hid (AllRel b (p + 2) false (addL (P.map (·.1)) ⟨1, 0, 0, [255]⟩)) := Lib.hid (by have := MID.out; rw [c255] at this; exact this.twice)
              clear c255 hw1
              have HE2 := Lib.hid (HE.out.below (below_alloc wr (.cells #[.int .u8 255] 5)))
              have HU2 := Lib.hid (lit1 (s := s) wr hsz 255)
              go_wp2_with fail
              refine (radd_any s _ P ⟨1, 0, 0, [255]⟩ _ _ _ _ HE2.out (.inr HU2.out) (by rw [World.size_alloc]; omega) (by have := HF.out.1; simp at this; omega) (fun y hy => by have := HF.out.2.2 y.1 (List.mem_map_of_mem hy); omega) (by simp)).mono ?_
              rintro e' w5 ⟨v5, P5, rfl, hE5, hP5, hb5⟩
              have HE5 := Lib.hid hE5
              have HB5 := Lib.hid (HOLD.out.trans (((below_alloc wr (.cells #[.int .u8 255] 5)).mono hsz).trans hb5))
              have HR5 : Hid (AllRel b (p + 2) false (P5.map (·.1)) ∧ Few (p + 2) (P5.map (·.1))) := Lib.hid (by rw [hP5]; exact ⟨REL.out, HF.out.add (by omega) _⟩)
              clear hE5 hP5 hb5
              go_wp2_with fail
              go_roundw
              case rel => exact ⟨p + 2, P5, false, by omega, by go_num, rfl, HE5.out, HR5.out.2, HR5.out.1, HB5.out⟩
              case measure => simp [intOf]; omega
            have t1 : (c == 255) = false := by simpa using c255
            have C255 := Lib.hid c255
            clear c255
            by_cases c239 : c = 239
            · have t2 : (c == 239) = true := by simpa using c239
              have REL : Hid (AllRel b (p + 2) false (P.map (·.1) ++ [⟨2, 0, 0, []⟩])) := Lib.hid (by have := MID.out; rw [c239] at this; exact this.ends)
              clear c239 hw1
              go_wp2_with (at_builtin; refine wpList_append_own _ rfl _ _ 33 rfl s 32 i0 (.agg #[.int .i64 0, .int .u8 0, .int .u8 0, .slice none 0 0]) 4 40 Try.underlying33 hi hz0 hz1 hz2 rfl (by decide) _ _ _ rfl (HRAW.out.alloc _) ⟨wr.heap.size, 0, none⟩ 1 1 [.int .i64 2, .int .u8 0, .int .u8 0, .slice none 0 0] rfl rfl (rev_cl wr 2 0 0 (.slice none 0 0)) (by simp [Value.oneCell']) (by unfold maxLen; omega) (by omega) (by rw [World.size_alloc]; omega) ?_; intro v5 w5 hown5 hgrow5 _; have HM := Lib.hid (rmore (e := ⟨2, 0, 0, []⟩) HE.out HM0.out hsz (.inr (own_nil _ _)) hown5 hgrow5); clear hown5 hgrow5)
              have HR5 := Lib.hid (show AllRel b (p + 2) false _ ∧ Few (p + 2) _ from ⟨REL.out, HF.out.more (e := ⟨2, 0, 0, []⟩) (by omega) (by simp)⟩)
              go_roundw
              case rel => exact ⟨p + 2, P ++ [(⟨2, 0, 0, []⟩, .slice none 0 0)], false, by omega, by go_num, rfl, HM.out.1, by rw [List.map_append]; exact HR5.out.2, by rw [List.map_append]; exact HR5.out.1, HOLD.out.trans HM.out.2⟩
              case measure => simp [intOf]; omega
            have t2 : (c == 239) = false := by simpa using c239
            have C239 := Lib.hid c239
            clear c239
            by_cases c251 : 251 ≤ c
            · have hv := Lib.hid (MID.out.verb c251 (by have := C255.out; omega))
              by_cases hqn : n ≤ p + 2
              · have hqi : (n : Int) ≤ ((p : Int) + 1 + 1) := by omega
                go_wp2_with fail
                go_ret2
                exact ⟨_, P, true, rfl, by rw [← HS.out]; exact HE.out, HF.out.mono (by rw [← HN.out]; omega), by rw [← HS.out]; exact HOLD.out, fun _ => hv.out.1 (by rw [← HN.out]; exact hqn), fun h => by cases h⟩
              · have hqi : ¬ (n : Int) ≤ ((p : Int) + 1 + 1) := by omega
                obtain ⟨y, hy⟩ : ∃ y, b[p + 2]? = some y := ⟨_, List.getElem?_eq_getElem (by rw [← HN.out]; omega)⟩
                have dy := CELL.out (p + 2) y wr hy HOLD.out
                have REL : Hid (AllRel b (p + 2 + 1) false (P.map (·.1) ++ [⟨4, c, y, []⟩])) := Lib.hid (hv.out.2 y hy)
                have hqe : (((p : Int) + 1 + 1)).toNat = p + 2 := by omega
                clear hy
                go_wp2_with (at_builtin; refine wpList_append_own _ rfl _ _ 33 rfl s 32 i0 (.agg #[.int .i64 0, .int .u8 0, .int .u8 0, .slice none 0 0]) 4 40 Try.underlying33 hi hz0 hz1 hz2 rfl (by decide) _ _ _ rfl (HRAW.out.alloc _) ⟨wr.heap.size, 0, none⟩ 1 1 [.int .i64 4, .int .u8 c, .int .u8 y, .slice none 0 0] rfl rfl (rev_cl wr 4 c y (.slice none 0 0)) (by simp [Value.oneCell']) (by unfold maxLen; omega) (by omega) (by rw [World.size_alloc]; omega) ?_; intro v5 w5 hown5 hgrow5 _; have HM := Lib.hid (rmore (e := ⟨4, c, y, []⟩) HE.out HM0.out hsz (.inr (own_nil _ _)) hown5 hgrow5); clear hown5 hgrow5)
                have HR5 := Lib.hid (show AllRel b (p + 2 + 1) false _ ∧ Few (p + 2 + 1) _ from ⟨REL.out, HF.out.more (e := ⟨4, c, y, []⟩) (by omega) (by simp)⟩)
                go_roundw
                case rel => exact ⟨p + 2 + 1, P ++ [(⟨4, c, y, []⟩, .slice none 0 0)], false, by omega, by go_num, rfl, HM.out.1, by rw [List.map_append]; exact HR5.out.2, by rw [List.map_append]; exact HR5.out.1, HOLD.out.trans HM.out.2⟩
                case measure => simp [intOf]; omega
            have h251 : ¬ (251 : Int) ≤ c := c251
            by_cases c250 : c = 250
            · have t3 : (c == 250) = true := by simpa using c250
              have MID2 : Hid (Mid b (p + 2) 250 (P.map (·.1))) := Lib.hid (by have := MID.out; rwa [c250] at this)
              clear c250
              go_wp2_with fail
              refine (rsub_at _ b (p + 2) _ wr (by omega) (HROW.out.below (by rw [← HS.out]; exact HOLD.out)) (by rw [← HN.out]; omega) (by rw [← HN.out]; exact HQN.out)).mono ?_
              rintro e' w2 ⟨kd, opt, u, nx, Lb, rfl, hu, hLb, hb2, hso⟩
              obtain ⟨ua, uc, rfl⟩ := row_form hu
              obtain ⟨ul, hul⟩ : ∃ ul, ul = Lb.length := ⟨_, rfl⟩
              rw [← hul] at hu hLb ⊢
              have HUL := Lib.hid hul
              have HU := Lib.hid hu
              have HB2 := Lib.hid hb2
              have hcase := MID2.out.sub (o := opt) (L := Lb) hso
              clear hso hu hul hb2
              rcases hcase with ⟨h0, hst⟩ | ⟨h1, h2, hrel⟩
              · subst h0
                have HST := Lib.hid hst
                clear hst
                go_wp2_with fail
                go_ret2
                exact ⟨_, P, true, rfl, by rw [← HS.out]; exact (HE.out.below HB2.out).below (below_alloc _ _), HF.out.mono (by rw [← HN.out]; omega), by rw [← HS.out]; exact HOLD.out.trans ((HB2.out.mono hsz).trans ((below_alloc _ _).mono (by have := HB2.out.size; omega))), fun _ => HST.out, fun h => by cases h⟩
              · have hnx0 : ((nx : Int) == 0) = false := by simp; omega
                have HREL := Lib.hid hrel
                clear hrel
                have hsz2 : s ≤ w2.heap.size := by have := HB2.out.size; omega
                obtain ⟨W6, hW6⟩ : ∃ W, W = w2.alloc (.cells #[.int .i64 kd, .int .u8 0, .int .u8 opt, .slice ua ul uc] 32) := ⟨_, rfl⟩
                obtain ⟨g6, hg6⟩ : ∃ g, g = w2.heap.size := ⟨_, rfl⟩
                have hb6 := below_alloc w2 (.cells #[.int .i64 kd, .int .u8 0, .int .u8 opt, .slice ua ul uc] 32)
                have hn6 := heap_alloc_new w2 (.cells #[.int .i64 kd, .int .u8 0, .int .u8 opt, .slice ua ul uc] 32)
                have hz6 : s ≤ W6.heap.size := by rw [hW6, World.size_alloc]; omega
                rw [← hW6] at hb6 hn6
                rw [← hg6] at hn6
                have d0 : W6.cell? ⟨g6, 0, none⟩ = some (.int .i64 kd) := by simp [World.cell?, hn6]
                have d1 : W6.cell? ⟨g6, 1, none⟩ = some (.int .u8 0) := by simp [World.cell?, hn6]
                have d2 : W6.cell? ⟨g6, 2, none⟩ = some (.int .u8 opt) := by simp [World.cell?, hn6]
                have d3 : W6.cell? ⟨g6, 3, none⟩ = some (.slice ua ul uc) := by simp [World.cell?, hn6]
                have HG6 : Hid (Value.ownBlock (.slice va m vc) ≠ some g6) := Lib.hid fun e => by
                  have := (World.ownsRow.lt HE.out.row g6 e).2
                  have := HB2.out.size
                  omega
                have HE6 := Lib.hid ((HE.out.below HB2.out).below hb6)
                have HU6 : Hid (RB s W6 (.slice ua ul uc) Lb) := Lib.hid (.inr (own_low (HU.out.below hb6) hsz))
                have HO6 := Lib.hid (HOLD.out.trans ((HB2.out.mono hsz).trans (hb6.mono hsz2)))
                have HRAW6 := Lib.hid HE6.out.row
                rw [← HM0.out] at HRAW6
                have HB6 := Lib.hid hn6
                have HW6 := Lib.hid hW6.symm
                have HGE := Lib.hid hg6.symm
                clear hb6 hn6 hW6 hg6
                go_upto_region 28 with fail
                rw [HW6.out, HGE.out]
                go_wp2_with (at_builtin; refine wpList_append_own _ rfl _ _ 33 rfl s 32 i0 (.agg #[.int .i64 0, .int .u8 0, .int .u8 0, .slice none 0 0]) 4 40 Try.underlying33 hi hz0 hz1 hz2 rfl (by decide) _ _ _ rfl (HRAW6.out.alloc _) ⟨W6.heap.size, 0, none⟩ 1 1 [.int .i64 kd, .int .u8 0, .int .u8 opt, .slice ua ul uc] rfl rfl (rev_cl W6 kd 0 opt (.slice ua ul uc)) (by simp [Value.oneCell']) (by unfold maxLen; omega) (by omega) (by rw [World.size_alloc]; omega) ?_; intro v5 w5 hown5 hgrow5 _; have HM := Lib.hid (rmore (e := ⟨kd, 0, opt, Lb⟩) HE6.out HM0.out hz6 HU6.out hown5 hgrow5); have d5 : w5.cell? ⟨g6, 0, none⟩ = some (.int .i64 kd) := rbox HB6.out HG6.out hgrow5; clear hown5 hgrow5)
                have HR5 := Lib.hid (show AllRel b nx (kd == 7) _ ∧ Few nx _ from ⟨HREL.out, HF.out.more (e := ⟨kd, 0, opt, Lb⟩) (by omega) (by have := HUL.out; show Lb.length ≤ 256; omega)⟩)

                go_roundw
                case rel => exact ⟨nx, P ++ [(⟨kd, 0, opt, Lb⟩, .slice ua ul uc)], (kd == 7), by have := HN.out; omega, by go_num, rfl, HM.out.1, by rw [List.map_append]; exact HR5.out.2, by rw [List.map_append]; exact HR5.out.1, HO6.out.trans HM.out.2⟩
                case measure => simp [intOf]; omega
            have t3 : (c == 250) = false := by simpa using c250
            have REL : Hid (AllRel b (p + 2) false (P.map (·.1) ++ [⟨3, c, 0, []⟩])) := Lib.hid (MID.out.other C255.out C239.out c250 (by omega))
            clear c250 hw1
            go_wp2_with (at_builtin; refine wpList_append_own _ rfl _ _ 33 rfl s 32 i0 (.agg #[.int .i64 0, .int .u8 0, .int .u8 0, .slice none 0 0]) 4 40 Try.underlying33 hi hz0 hz1 hz2 rfl (by decide) _ _ _ rfl (HRAW.out.alloc _) ⟨wr.heap.size, 0, none⟩ 1 1 [.int .i64 3, .int .u8 c, .int .u8 0, .slice none 0 0] rfl rfl (rev_cl wr 3 c 0 (.slice none 0 0)) (by simp [Value.oneCell']) (by unfold maxLen; omega) (by omega) (by rw [World.size_alloc]; omega) ?_; intro v5 w5 hown5 hgrow5 _; have HM := Lib.hid (rmore (e := ⟨3, c, 0, []⟩) HE.out HM0.out hsz (.inr (own_nil _ _)) hown5 hgrow5); clear hown5 hgrow5)
            have HR5 := Lib.hid (show AllRel b (p + 2) false _ ∧ Few (p + 2) _ from ⟨REL.out, HF.out.more (e := ⟨3, c, 0, []⟩) (by omega) (by simp)⟩)
            go_roundw
            case rel => exact ⟨p + 2, P ++ [(⟨3, c, 0, []⟩, .slice none 0 0)], false, by omega, by go_num, rfl, HM.out.1, by rw [List.map_append]; exact HR5.out.2, by rw [List.map_append]; exact HR5.out.1, HOLD.out.trans HM.out.2⟩
            case measure => simp [intOf]; omega
        · have tx : (x != 255) = true := by simpa using x255
          have REL : Hid (AllRel b (p + 1) false (addL (P.map (·.1)) ⟨1, 0, 0, [x]⟩)) := Lib.hid (HRL.out.byte hx x255)
          clear x255 hx HRL
          have HE2 := Lib.hid (HE.out.below (below_alloc wr (.cells #[.int .u8 x] 5)))
          have HU2 := Lib.hid (lit1 (s := s) wr hsz x)
          go_wp2_with fail
          refine (radd_any s _ P ⟨1, 0, 0, [x]⟩ _ _ _ _ HE2.out (.inr HU2.out) (by rw [World.size_alloc]; omega) (by have := HF.out.1; simp at this; omega) (fun y hy => by have := HF.out.2.2 y.1 (List.mem_map_of_mem hy); omega) (by simp)).mono ?_
          rintro e' w5 ⟨v5, P5, rfl, hE5, hP5, hb5⟩
          have HE5 := Lib.hid hE5
          have HB5 := Lib.hid (HOLD.out.trans (((below_alloc wr (.cells #[.int .u8 x] 5)).mono hsz).trans hb5))
          have HR5 : Hid (AllRel b (p + 1) false (P5.map (·.1)) ∧ Few (p + 1) (P5.map (·.1))) := Lib.hid (by rw [hP5]; exact ⟨REL.out, HF.out.add (by omega) _⟩)
          clear hE5 hP5 hb5
          go_wp2_with fail
          go_roundw
          case rel => exact ⟨p + 1, P5, false, by omega, by go_num, rfl, HE5.out, HR5.out.2, HR5.out.1, HB5.out⟩
          case measure => simp [intOf]; omega
    · obtain rfl : n = p := by omega
      have HD := Lib.hid (HRL.out.done (by rw [← HN.out]; exact Nat.le_refl _))
      go_wp2_with fail
      go_ret2
      exact ⟨_, P, false, rfl, by rw [← HS.out]; exact HE.out, by rw [← HN.out]; exact HF.out, by rw [← HS.out]; exact HOLD.out, fun h => (by cases h), fun _ => HD.out⟩
end Go.Proofs.Ytimidoaafllnkaa.Iac
