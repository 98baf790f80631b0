/-
  The reference's headers: 'as', Write, Answer.
-/
import Derived.Test.YtfijcdidcnfadaaHeadC
import Derived.Test.YtfijcdidcnfadaaRefB
namespace Go.Proofs.Ytfijcdidcnfadaa.Head
open Go.RowKit Base Iac
set_option linter.unusedVariables false

def rhA (h : Hd) : Array Value := #[.int .u8 h.ty, .int .u8 h.rq, .int .u8 h.rs, .int .i64 h.seq]
theorem size_rh : (Try.prog.info? 31).map (·.size) = some 4 := by kernel_rfl
theorem info_rh : (Try.prog.info? 31).map (fun i => (i.zero, i.size)) = some (some (.agg #[.int .u8 0, .int .u8 0, .int .u8 0, .int .i64 0]), 4) := by kernel_rfl
theorem load_rh {g : Nat} {W : World} {cs : Array Value} (hr : W.heap[g]? = some (.cells cs 31 (0, 0))) (hs : cs.size = 4) : (loadVar 31 ⟨g, 0, none⟩).run Try.prog W = .ok (.agg cs) W :=
  run_loadVar_row _ g 31 31 cs (0, 0) _ hr Try.underlying31 rfl (by rw [hs]; exact size_rh)
theorem results_row {fn : Func} {p : Tmp} {ty : TypeId} (h : fn.results = #[.cell p ty]) (tmps : Array Value) (w : World) (g : Nat) (cs : Array Value)
    (hp : tmps.getD p undef = .pointer (some ⟨g, 0, none⟩)) (hrun : (loadVar ty ⟨g, 0, none⟩).run Try.prog w = .ok (.agg cs) w) :
    (results fn tmps).run Try.prog w = .ok (.agg cs) w := by
  have hp' : tmps[p]?.getD undef = .pointer (some ⟨g, 0, none⟩) := by simpa using hp
  simp only [results, h]
  simp [hp', asAddr, hrun]
theorem boxed4 {W : World} {g : Nat} {a b c d : Value} {t : TypeId} (h : W.heap[g]? = some (.cells #[a, b, c, d] t (0, 0))) : W.cell? ⟨g, 0, none⟩ = some a ∧ W.cell? ⟨g, 1, none⟩ = some b ∧ W.cell? ⟨g, 2, none⟩ = some c ∧ W.cell? ⟨g, 3, none⟩ = some d :=
  ⟨by simp [World.cell?, h], by simp [World.cell?, h], by simp [World.cell?, h], by simp [World.cell?, h]⟩
/-- A header laid into a box. -/
theorem laid4 {W : World} {g : Nat} {t : TypeId} {p q r s : Value} (h : W.heap[g]? = some (.cells #[p, q, r, s] t (0, 0))) (a b c d : Value) : (((((W.setCell ⟨g, 0, none⟩ a).setCell ⟨g, 1, none⟩ b).setCell ⟨g, 2, none⟩ c).setCell ⟨g, 3, none⟩ d)).heap[g]? = some (.cells #[a, b, c, d] t (0, 0)) := by
  have h1 := heap_set (heap_set (heap_set (heap_set h 0 a) 1 b) 2 c) 3 d
  rw [h1]
  rfl
theorem old4 {w W : World} {g : Nat} (h : Below w.heap.size w W) (hg : w.heap.size ≤ g) (a b c d : Value) : Below w.heap.size w ((((W.setCell ⟨g, 0, none⟩ a).setCell ⟨g, 1, none⟩ b).setCell ⟨g, 2, none⟩ c).setCell ⟨g, 3, none⟩ d) := (((h.setCell hg _).setCell hg _).setCell hg _).setCell hg _
set_option maxRecDepth 100000 in
set_option maxHeartbeats 4000000 in
theorem has_any (h : Hd) (hk : h.Ok) (w : World) : Calls Try.prog 20 #[.agg (hdA h)] w fun e w' => e = .returned (.agg (rhA h)) ∧ Below w.heap.size w w' := by
  obtain ⟨ty, rq, rs, sq⟩ := h
  have s0 := hk.sq0
  have s1 := hk.sq1
  simp only at s0 s1
  unfold hdA rhA
  simp only
  have hz := (zero_of_info info_rh).1
  obtain ⟨W0, hW0⟩ : ∃ W0, W0 = w.alloc (.cells #[.int .u8 ty, .int .u8 rq, .int .u8 rs, .int .u16 sq] 25) := ⟨_, rfl⟩
  have hb0 := below_alloc w (.cells #[.int .u8 ty, .int .u8 rq, .int .u8 rs, .int .u16 sq] 25)
  have hn0 := heap_alloc_new w (.cells #[.int .u8 ty, .int .u8 rq, .int .u8 rs, .int .u16 sq] 25)
  have hz0 := World.size_alloc w (.cells #[.int .u8 ty, .int .u8 rq, .int .u8 rs, .int .u16 sq] 25)
  rw [← hW0] at hb0 hn0 hz0
  have b1 := below_alloc W0 (.cells #[.int .u8 0, .int .u8 0, .int .u8 0, .int .i64 0] 31)
  have n1 := heap_alloc_new W0 (.cells #[.int .u8 0, .int .u8 0, .int .u8 0, .int .i64 0] 31)
  obtain ⟨W1, hW1⟩ : ∃ W1, W1 = W0.alloc (.cells #[.int .u8 0, .int .u8 0, .int .u8 0, .int .i64 0] 31) := ⟨_, rfl⟩
  rw [← hW1] at b1 n1
  rw [hz0] at n1
  have hblk := (b1.block _ (lt_of_block hn0)).trans hn0
  obtain ⟨c0, c1, c2, c3⟩ := boxed4 hblk
  obtain ⟨g, hg⟩ : ∃ g, g = w.heap.size := ⟨_, rfl⟩
  rw [← hg] at n1 c0 c1 c2 c3 hz0
  obtain ⟨e0, e1, e2, e3⟩ := boxed4 n1
  have f0 : ∀ o, W1.frozen? ⟨g + 1, o, none⟩ = false := fun o => by simp [World.frozen?, n1]
  have f00 := f0 0
  have f01 := f0 1
  have f02 := f0 2
  have f03 := f0 3
  have HB := Lib.hid (hb0.trans (b1.mono hb0.size))
  have HN := Lib.hid n1
  have HW0 := Lib.hid hW0.symm
  have HW1 := Lib.hid hW1.symm
  have HG := Lib.hid hg.symm
  have HZ0 := Lib.hid hz0
  have HG2 : Hid (w.heap.size ≤ g + 1) := Lib.hid (by omega)
  clear b1 n1 hblk hb0 hn0 hz0 hW0 hW1 hg f0 hk
  go_enter Try.func20, Try.ntmps20
  go_upto_region 1 with fail
  rw [HW0.out, HW1.out, HG.out]
  go_wp2_with fail
  refine bodyPost_ret (results_row rfl _ _ (g + 1) _ rfl (load_rh (laid4 HN.out _ _ _ _) rfl)) rfl ?_
  exact ⟨rfl, old4 HB.out HG2.out _ _ _ _⟩
set_option maxRecDepth 100000 in
set_option maxHeartbeats 4000000 in
theorem rwrite_any (h : Hd) (hk : h.Ok) (v : Value) (L : List Int) (w : World) (hr : RowOf .u8 w v L) (hl : L.length ≤ 100000) :
    Calls Try.prog 26 #[.agg (rhA h), v] w fun e w' => ∃ p, e = .returned p ∧ OwnBytes w.heap.size w' p (hdL h ++ L) ∧ Below w.heap.size w w' := by
  obtain ⟨ty, rq, rs, sq⟩ := h
  obtain ⟨t0, t1, q0, q1, r0, r1, s0, s1⟩ := hk
  simp only at t0 t1 q0 q1 r0 r1 s0 s1
  unfold rhA hdL
  simp only
  obtain ⟨W0, hW0⟩ : ∃ W0, W0 = w.alloc (.cells #[.int .u8 ty, .int .u8 rq, .int .u8 rs, .int .i64 sq] 31) := ⟨_, rfl⟩
  have hb0 := below_alloc w (.cells #[.int .u8 ty, .int .u8 rq, .int .u8 rs, .int .i64 sq] 31)
  have hn0 := heap_alloc_new w (.cells #[.int .u8 ty, .int .u8 rq, .int .u8 rs, .int .i64 sq] 31)
  have hz0 := World.size_alloc w (.cells #[.int .u8 ty, .int .u8 rq, .int .u8 rs, .int .i64 sq] 31)
  rw [← hW0] at hb0 hn0 hz0
  obtain ⟨c0, c1, c2, c3⟩ := boxed4 hn0
  obtain ⟨g, hg⟩ : ∃ g, g = w.heap.size := ⟨_, rfl⟩
  rw [← hg] at c0 c1 c2 c3
  have o1 := new5_own (s := W0.heap.size) W0 (Nat.le_refl _) ty rq rs (sq / 256) (sq % 256)
  have b1 := below_alloc W0 (.cells #[.int .u8 ty, .int .u8 rq, .int .u8 rs, .int .u8 (sq / 256), .int .u8 (sq % 256)] 5)
  obtain ⟨W1, hW1⟩ : ∃ W1, W1 = W0.alloc (.cells #[.int .u8 ty, .int .u8 rq, .int .u8 rs, .int .u8 (sq / 256), .int .u8 (sq % 256)] 5) := ⟨_, rfl⟩
  rw [← hW1] at o1 b1
  have hb1 := hb0.trans (b1.mono hb0.size)
  have r1 := hr.below hb1
  have r2 := rows8_two W1 _ v _ L o1.row r1
  have b2 := below_alloc W1 (.cells #[.slice (some ⟨W0.heap.size, 0, none⟩) 5 5, v] 22)
  have z1 : W1.heap.size = W0.heap.size + 1 := by rw [hW1, World.size_alloc]
  rw [z1] at r2
  have HB := Lib.hid (hb1.trans (b2.mono hb1.size))
  have HR := Lib.hid r2
  have HW0 := Lib.hid hW0.symm
  have HW1 := Lib.hid hW1.symm
  have HG := Lib.hid hg.symm
  have HZ0 := Lib.hid hz0
  obtain ⟨a, cap, rfl, _⟩ := hr
  obtain ⟨l, hl'⟩ : ∃ l, l = L.length := ⟨_, rfl⟩
  have HL := Lib.hid hl'
  rw [← hl'] at HB HR hl ⊢
  clear hb0 hn0 hz0 hb1 r1 r2 b1 b2 o1 hW0 hW1 hg hl'
  go_enter Try.func26, Try.ntmps26
  go_upto_region 1 with fail
  rw [HW0.out, HG.out]
  go_wp2_with fail
  rw [HW1.out]
  refine (rjoin_any _ _ _ HR.out (by simp) (by simp; have := HL.out; omega)).mono ?_
  rintro e w5 ⟨p, rfl, hp, hb5⟩
  have HP := Lib.hid (hp.lower HB.out.size)
  have HB5 := Lib.hid (HB.out.trans (hb5.mono HB.out.size))
  simp only [List.flatten_cons, List.flatten_nil, List.append_nil] at HP
  clear hp hb5
  go_wp2_with fail
  go_ret
  exact ⟨_, rfl, HP.out, HB5.out⟩
/-! ### The record that answers one -/
structure RQ (w : World) (g : Nat) (cs : Array Value) (W : World) : Prop where
  old : Below w.heap.size w W
  blk : W.heap[g]? = some (.cells cs 31 (0, 0))
  size : cs.size = 4
section
variable {w W : World} {g : Nat} {cs : Array Value}
theorem RQ.s {a b c d : Value} (h : RQ w g #[a, b, c, d] W) : W.cell? ⟨g, 0, none⟩ = some a ∧ W.cell? ⟨g, 1, none⟩ = some b ∧ W.cell? ⟨g, 2, none⟩ = some c ∧ W.cell? ⟨g, 3, none⟩ = some d :=
  boxed4 h.blk
theorem RQ.s3 {a b c d : Value} (h : RQ w g #[a, b, c, d] W) : W.cell? ⟨g, 3, none⟩ = some d ∧ RQ w g #[a, b, c, d] W := ⟨h.s.2.2.2, h⟩
theorem RQ.below {W' : World} (h : RQ w g cs W) (t : Below W.heap.size W W') : RQ w g cs W' := ⟨h.old.trans (t.mono h.old.size), (t.block _ (lt_of_block h.blk)).trans h.blk, h.size⟩
theorem RQ.fin {W' : World} {p : Value} {L : List Int} (h : RQ w g cs W) (hp : OwnBytes W.heap.size W' p L) (t : Below W.heap.size W W') : RQ w g cs W' ∧ OwnBytes w.heap.size W' p L := ⟨h.below t, hp.lower h.old.size⟩
theorem RQ.drew (h : RQ w g cs W) : RQ w g cs W.drew := ⟨h.old.drew, h.blk, h.size⟩
theorem RQ.alloc (h : RQ w g cs W) (o : Obj) : RQ w g cs (W.alloc o) := ⟨h.old.alloc h.old.size o, (Below.heap_alloc _ _ _ (lt_of_block h.blk)).trans h.blk, h.size⟩
end
set_option maxRecDepth 100000 in
set_option maxHeartbeats 4000000 in
theorem ranswer_any (h : Hd) (hk : h.Ok) (e : Int) (w : World) : Calls Try.prog 19 #[.agg (rhA h), .int .i64 e] w (AnsP (ansL h e) w) := by
  obtain ⟨o, ho⟩ : ∃ o, o = ansL h e := ⟨_, rfl⟩
  rw [← ho]
  obtain ⟨ty, rq, rs, sq⟩ := h
  unfold ansL at ho
  unfold rhA
  simp only at ho ⊢
  obtain ⟨W0, hW0⟩ : ∃ W0, W0 = w.alloc (.cells #[.int .u8 ty, .int .u8 rq, .int .u8 rs, .int .i64 sq] 31) := ⟨_, rfl⟩
  have hb0 := below_alloc w (.cells #[.int .u8 ty, .int .u8 rq, .int .u8 rs, .int .i64 sq] 31)
  have hn0 := heap_alloc_new w (.cells #[.int .u8 ty, .int .u8 rq, .int .u8 rs, .int .i64 sq] 31)
  rw [← hW0] at hb0 hn0
  obtain ⟨c0, c1, c2, c3⟩ := boxed4 hn0
  obtain ⟨g, hg⟩ : ∃ g, g = w.heap.size := ⟨_, rfl⟩
  have HQ : Hid (RQ w g #[.int .u8 ty, .int .u8 rq, .int .u8 rs, .int .i64 sq] W0) := Lib.hid ⟨hb0, by rw [hg]; exact hn0, rfl⟩
  rw [← hg] at c0 c1 c2 c3
  have HB := Lib.hid hb0
  have HW0 := Lib.hid hW0.symm
  have HG := Lib.hid hg.symm
  have s0 := hk.sq0
  have s1 := hk.sq1
  simp only at s0 s1
  have HK : ∀ r, 0 ≤ r → r ≤ 255 → Hd.Ok ⟨2, 0, r, sq⟩ := fun r h0 h1 => ⟨by simp, by simp, by simp, by simp, h0, h1, s0, s1⟩
  have HK' := Lib.hid HK
  clear hb0 hn0 hW0 hg HK s0 s1 hk
  by_cases h1 : 1 < ty
  · rw [if_pos h1] at ho
    have HO := Lib.hid ho
    clear ho
    go_enter Try.func19, Try.ntmps19
    go_upto_region 1 with fail
    rw [HW0.out, HG.out]
    go_wp2_with fail
    go_ret2
    exact AnsP.no HO.out HB.out
  · rw [if_neg h1] at ho
    by_cases he : e = 0
    · subst he
      by_cases hrs : rs = 2
      · subst hrs
        rw [if_pos ⟨rfl, rfl⟩] at ho
        have HO := Lib.hid ho
        clear ho
        have b1 := below_alloc W0 (.cells #[.int .u8 0] 5)
        have r1 := row_one8 W0 0 5
        have HB1 := Lib.hid (HB.out.trans (b1.mono HB.out.size))
        have HR1 := Lib.hid r1
        clear b1 r1
        go_enter Try.func19, Try.ntmps19
        go_upto_region 1 with fail
        rw [HW0.out, HG.out]
        go_wp2_with fail
        refine (rwrite_any ⟨2, 0, 0, sq⟩ (HK'.out 0 (by omega) (by omega)) _ [0] _ HR1.out (by simp)).mono ?_
        rintro e w1 ⟨p, rfl, hp, hw⟩
        have HP := Lib.hid hp
        have HW := Lib.hid hw
        clear hp hw
        go_wp2_with fail
        go_ret2
        exact yes_world HO.out HB1.out HP.out HW.out
      · rw [if_neg (fun h => hrs h.2), if_neg (fun h => h.1 rfl)] at ho
        have HO := Lib.hid ho
        have t2 : (rs == 2) = false := by simpa using hrs
        clear ho hrs
        go_enter Try.func19, Try.ntmps19
        go_upto_region 1 with fail
        rw [HW0.out, HG.out]
        go_wp2_with fail
        go_ret2
        exact AnsP.no HO.out HB.out
    · rw [if_neg (fun h => he h.1)] at ho
      have te : (e == 0) = false := by simpa using he
      have te' : (e != 0) = true := by simpa using he
      by_cases hrs : rs = 1 ∨ rs = 2
      · rw [if_pos ⟨he, hrs⟩] at ho
        have HO := Lib.hid ho
        have HC : 0 ≤ codeB e ∧ codeB e ≤ 255 := by unfold codeB; split <;> omega
        have HCB := Lib.hid HC
        clear ho he HC
        obtain ⟨rv, hrv⟩ : ∃ rv, rv = rs := ⟨_, rfl⟩
        rw [← hrv] at HQ
        rcases hrs with rfl | rfl
        all_goals
          go_enter Try.func19, Try.ntmps19
          go_upto_region 1 with fail
          rw [HW0.out, HG.out]
          go_upto_region 6 with fail
          first
          | (go_region_held3 (fun W => W.cell? ⟨g, 3, none⟩ = some (.int .i64 sq) ∧ RQ w g #[.int .u8 ty, .int .u8 rq, .int .u8 rv, .int .i64 sq] W)
              (with_reducible (first | assumption | exact HQ.out.s3 | exact HQ.out.drew.s3 | exact (HQ.out.alloc _).s3 | exact (HQ.out.alloc _).drew.s3 | exact (HQ.out.drew.alloc _).s3 | exact (HQ.out.drew.alloc _).drew.s3 | exact HF.out.1.s3 | exact HF.out.1.drew.s3))
              (first
                | (go_at_call 24; refine (rcode_any _ _).mono ?_; rintro e2 w2 ⟨rfl, rfl⟩)
                | (go_at_call 26; first | refine (rwrite_any ⟨2, 0, 1, sq⟩ (HK'.out 1 (by omega) (by omega)) _ [codeB e] _ (row_one8 _ _ _) (by simp)).mono ?_ | refine (rwrite_any ⟨2, 0, 1, sq⟩ (HK'.out 1 (by omega) (by omega)) _ [codeB e] _ (row_one8d _ _ _) (by simp)).mono ?_; rintro e2 w2 ⟨p, rfl, hp, hw⟩; have HF := Lib.hid (by with_reducible (first | exact (HQ.out.alloc _).fin hp hw | exact (HQ.out.alloc _).drew.fin hp hw | exact (HQ.out.drew.alloc _).fin hp hw | exact (HQ.out.drew.alloc _).drew.fin hp hw) : RQ w g #[.int .u8 ty, .int .u8 rq, .int .u8 rv, .int .i64 sq] w2 ∧ OwnBytes w.heap.size w2 p [2, 0, 1, sq / 256, sq % 256, codeB e]); clear hp hw)))
          | fail
          all_goals
            go_wp2
            go_ret2
            first | exact AnsP.yes HO.out HF.out.2 HF.out.1.old | exact AnsP.yes HO.out (HF.out.2.keep fun _ _ _ => rfl) (below_drewN HF.out.1.old _)
      · rw [if_neg (fun h => hrs h.2)] at ho
        have HO := Lib.hid ho
        have t1 : (rs == 1) = false := by simp; omega
        have t2 : (rs == 2) = false := by simp; omega
        clear ho hrs he
        go_enter Try.func19, Try.ntmps19
        go_upto_region 1 with fail
        rw [HW0.out, HG.out]
        go_wp2_with fail
        go_ret2
        exact AnsP.no HO.out HB.out
end Go.Proofs.Ytfijcdidcnfadaa.Head
