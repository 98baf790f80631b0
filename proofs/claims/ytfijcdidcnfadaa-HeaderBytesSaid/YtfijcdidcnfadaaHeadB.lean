/-
  The contracts of Sense and Answer.
-/
import Derived.Test.YtfijcdidcnfadaaHeadA
namespace Go.Proofs.Ytfijcdidcnfadaa.Head
open Go.RowKit Base
set_option linter.unusedVariables false

/-- What an answer says. -/
def senseB (h : Hd) (L : List Int) : Bool := decide (h.ty = 2 ∧ (h.rs = 0 ∨ h.rs = 1) ∧ L.length = 1)
set_option maxRecDepth 100000 in
set_option maxHeartbeats 2000000 in
theorem sense_yes (h : Hd) (v : Value) (x : Int) (w : World) (hty : h.ty = 2) (hrs : h.rs = 0 ∨ h.rs = 1) (hr : RowOf .u8 w v [x]) :
    Calls Try.prog 21 #[.agg (hdA h), v] w fun e w' => e = .returned (.tuple #[.int .u8 x, .bool (decide (h.rs = 0)), .bool true]) ∧ Below w.heap.size w w' := by
  obtain ⟨ty, rq, rs, sq⟩ := h
  simp only at hty hrs
  subst hty
  unfold hdA
  simp only
  have HB := Lib.hid (below_alloc w (.cells #[.int .u8 2, .int .u8 rq, .int .u8 rs, .int .u16 sq] 25))
  obtain ⟨a, cap, rfl, hrow⟩ := hr
  obtain ⟨b, off, rfl, hc⟩ := hrow (by simp)
  have c0 := hc 0 (by simp)
  have c0 := (HB.out.cell (World.block_lt_of_cell? w _ c0)).trans c0
  simp only [List.length_singleton, Nat.add_zero, List.getElem?_cons_zero, Option.getD_some] at c0 ⊢
  clear hrow hc
  rcases hrs with rfl | rfl
  all_goals
    go_enter Try.func21, Try.ntmps21
    go_wp2_with fail
    go_quiet (fail)
    go_wp2_with fail
    go_ret3
    exact ⟨rfl, below_drewN HB.out _⟩
set_option maxRecDepth 100000 in
set_option maxHeartbeats 2000000 in
theorem sense_no (h : Hd) (v : Value) (L : List Int) (w : World) (hno : senseB h L = false) (hr : RowOf .u8 w v L) (hl : L.length ≤ 100000) :
    Calls Try.prog 21 #[.agg (hdA h), v] w fun e w' => e = .returned (.tuple #[.int .u8 0, .bool false, .bool false]) ∧ Below w.heap.size w w' := by
  obtain ⟨ty, rq, rs, sq⟩ := h
  have hno : ¬ (ty = 2 ∧ (rs = 0 ∨ rs = 1) ∧ L.length = 1) := of_decide_eq_false hno
  unfold hdA
  simp only
  have HB := Lib.hid (below_alloc w (.cells #[.int .u8 ty, .int .u8 rq, .int .u8 rs, .int .u16 sq] 25))
  obtain ⟨a, cap, rfl, hrow⟩ := hr
  obtain ⟨n, hn⟩ : ∃ n, n = L.length := ⟨_, rfl⟩
  rw [← hn] at hno hl ⊢
  clear hrow hn
  by_cases h1 : ty = 2
  · by_cases h2 : rs = 0 ∨ rs = 1
    · have h3 : n ≠ 1 := fun h => hno ⟨h1, h2, h⟩
      have t3 : ((n : Int) == 1) = false := by simp; omega
      have t4 : ((n : Int) != 1) = true := by simp; omega
      subst h1
      clear hno h3
      rcases h2 with rfl | rfl
      all_goals
        go_enter Try.func21, Try.ntmps21
        go_wp2_with fail
        go_ret3
        exact ⟨rfl, HB.out⟩
    · have t1 : (rs != 0) = true := by simp; omega
      have t2 : (rs != 1) = true := by simp; omega
      subst h1
      clear hno h2
      go_enter Try.func21, Try.ntmps21
      go_wp2_with fail
      go_ret3
      exact ⟨rfl, HB.out⟩
  · have t1 : (ty != 2) = true := by simp; omega
    clear hno h1
    go_enter Try.func21, Try.ntmps21
    go_wp2_with fail
    go_ret3
    exact ⟨rfl, HB.out⟩

/-! ### The record that answers one -/
def ansL (h : Hd) (e : Int) : Option (List Int) :=
  if 1 < h.ty then none
  else if e = 0 ∧ h.rs = 2 then some [2, 0, 0, h.seq / 256, h.seq % 256, 0]
  else if e ≠ 0 ∧ (h.rs = 1 ∨ h.rs = 2) then some [2, 0, 1, h.seq / 256, h.seq % 256, codeB e]
  else none
def AnsP (o : Option (List Int)) (w : World) (e : Ending) (w' : World) : Prop :=
  Below w.heap.size w w' ∧ match o with
    | none => e = .returned (.tuple #[.slice none 0 0, .bool false])
    | some L => ∃ p, e = .returned (.tuple #[p, .bool true]) ∧ OwnBytes w.heap.size w' p L
theorem AnsP.no {o : Option (List Int)} {w w' : World} (ho : o = none) (hb : Below w.heap.size w w') : AnsP o w (.returned (.tuple #[.slice none 0 0, .bool false])) w' := by
  subst ho; exact ⟨hb, rfl⟩
theorem AnsP.yes {o : Option (List Int)} {L : List Int} {w w' : World} {p : Value} (ho : o = some L) (hp : OwnBytes w.heap.size w' p L) (hb : Below w.heap.size w w') : AnsP o w (.returned (.tuple #[p, .bool true])) w' := by
  subst ho; exact ⟨hb, p, rfl, hp⟩
theorem ty_small {ty : Int} (h0 : 0 ≤ ty) (h : ¬ 1 < ty) : ty = 0 ∨ ty = 1 := by omega
theorem yes_world {w w1 w2 : World} {o : Option (List Int)} {L : List Int} {p : Value} (ho : o = some L) (h1 : Below w.heap.size w w1) (hp : OwnBytes w1.heap.size w2 p L) (h2 : Below w1.heap.size w1 w2) : AnsP o w (.returned (.tuple #[p, .bool true])) w2 :=
  AnsP.yes ho (hp.lower h1.size) (h1.trans (h2.mono h1.size))
/-- A box of a header, in a world. -/
structure AQ (w : World) (g : Nat) (cs : Array Value) (W : World) : Prop where
  old : Below w.heap.size w W
  blk : W.heap[g]? = some (.cells cs 25 (0, 0))
  size : cs.size = 4
section
variable {w W : World} {g : Nat} {cs : Array Value}
theorem AQ.s {a b c d : Value} (h : AQ w g #[a, b, c, d] W) : W.cell? ⟨g, 0, none⟩ = some a ∧ W.cell? ⟨g, 1, none⟩ = some b ∧ W.cell? ⟨g, 2, none⟩ = some c ∧ W.cell? ⟨g, 3, none⟩ = some d ∧ AQ w g #[a, b, c, d] W :=
  ⟨by simp [World.cell?, h.blk], by simp [World.cell?, h.blk], by simp [World.cell?, h.blk], by simp [World.cell?, h.blk], h⟩
theorem AQ.of_s {p q r t : Prop} (h : p ∧ q ∧ r ∧ t ∧ AQ w g cs W) : AQ w g cs W := h.2.2.2.2
theorem AQ.below {W' : World} (h : AQ w g cs W) (t : Below W.heap.size W W') : AQ w g cs W' := ⟨h.old.trans (t.mono h.old.size), (t.block _ (lt_of_block h.blk)).trans h.blk, h.size⟩
theorem AQ.fin {W' : World} {p : Value} {L : List Int} (h : AQ w g cs W) (hp : OwnBytes W.heap.size W' p L) (t : Below W.heap.size W W') : AQ w g cs W' ∧ OwnBytes w.heap.size W' p L := ⟨h.below t, hp.lower h.old.size⟩
theorem AQ.drew (h : AQ w g cs W) : AQ w g cs W.drew := ⟨h.old.drew, h.blk, h.size⟩
theorem AQ.alloc (h : AQ w g cs W) (o : Obj) : AQ w g cs (W.alloc o) := ⟨h.old.alloc h.old.size o, (Below.heap_alloc _ _ _ (lt_of_block h.blk)).trans h.blk, h.size⟩
end
set_option maxRecDepth 100000 in
set_option maxHeartbeats 4000000 in
theorem answer_any (h : Hd) (hk : h.Ok) (e : Int) (w : World) : Calls Try.prog 18 #[.agg (hdA h), .int .i64 e] w (AnsP (ansL h e) w) := by
  obtain ⟨o, ho⟩ : ∃ o, o = ansL h e := ⟨_, rfl⟩
  rw [← ho]
  obtain ⟨ty, rq, rs, sq⟩ := h
  unfold ansL at ho
  unfold hdA
  simp only at ho ⊢
  have hb := below_alloc w (.cells #[.int .u8 ty, .int .u8 rq, .int .u8 rs, .int .u16 sq] 25)
  have HB := Lib.hid hb
  have s0 := hk.sq0
  have s1 := hk.sq1
  simp only at s0 s1
  have HK : ∀ r, 0 ≤ r → r ≤ 255 → Hd.Ok ⟨2, 0, r, sq⟩ := fun r h0 h1 => ⟨by simp, by simp, by simp, by simp, h0, h1, s0, s1⟩
  by_cases h1 : 1 < ty
  · rw [if_pos h1] at ho
    have t0 : (ty != 0) = true := by simp; omega
    have t1 : (ty != 1) = true := by simp; omega
    have HO := Lib.hid ho
    clear ho h1 hb hk s0 s1 HK
    go_enter Try.func18, Try.ntmps18
    go_wp2_with fail
    go_ret2
    exact AnsP.no HO.out HB.out
  · rw [if_neg h1] at ho
    have h1' := ty_small hk.ty0 h1
    simp only at h1'
    have h2 := below_alloc (w.alloc (.cells #[.int .u8 ty, .int .u8 rq, .int .u8 rs, .int .u16 sq] 25)) (.cells #[.int .u8 2, .int .u8 0, .int .u8 0, .int .u16 sq] 25)
    have h3 := below_alloc ((w.alloc (.cells #[.int .u8 ty, .int .u8 rq, .int .u8 rs, .int .u16 sq] 25)).alloc (.cells #[.int .u8 2, .int .u8 0, .int .u8 0, .int .u16 sq] 25)) (.cells #[.int .u8 0] 5)
    have hb2 := hb.trans (h2.mono hb.size)
    have hb3 := hb2.trans (h3.mono hb2.size)
    have r3 := row_one8 ((w.alloc (.cells #[.int .u8 ty, .int .u8 rq, .int .u8 rs, .int .u16 sq] 25)).alloc (.cells #[.int .u8 2, .int .u8 0, .int .u8 0, .int .u16 sq] 25)) 0 5
    rw [World.size_alloc, World.size_alloc] at r3
    have HB2 := Lib.hid hb2
    have HB3 := Lib.hid hb3
    have HR3 := Lib.hid r3
    have HK' := Lib.hid HK
    clear h1 hk hb hb2 hb3 h2 h3 r3 HK s0 s1
    by_cases he : e = 0
    · subst he
      by_cases hrs : rs = 2
      · subst hrs
        rw [if_pos ⟨rfl, rfl⟩] at ho
        have HO := Lib.hid ho
        clear ho
        rcases h1' with rfl | rfl
        all_goals
          go_enter Try.func18, Try.ntmps18
          go_wp2_with fail
          refine (hwrite_any ⟨2, 0, 0, sq⟩ (HK'.out 0 (by omega) (by omega)) _ [0] _ HR3.out (fun _ _ h => by cases h) (by simp)).mono ?_
          rintro e w1 ⟨p, rfl, hp, hw⟩
          have HP := Lib.hid hp
          have HW := Lib.hid hw
          clear hp hw
          go_wp2_with fail
          go_ret2
          exact yes_world HO.out HB3.out HP.out HW.out
      · rw [if_neg (fun h => hrs h.2), if_neg (fun h => h.1 rfl)] at ho
        have HO := Lib.hid ho
        have t2 : (rs == 2) = false := by simpa using hrs
        clear ho hrs
        rcases h1' with rfl | rfl
        all_goals
          go_enter Try.func18, Try.ntmps18
          go_wp2_with fail
          go_ret2
          exact AnsP.no HO.out HB2.out
    · rw [if_neg (fun h => he h.1)] at ho
      have te : (e == 0) = false := by simpa using he
      have te' : (e != 0) = true := by simpa using he
      by_cases hrs : rs = 1 ∨ rs = 2
      · rw [if_pos ⟨he, hrs⟩] at ho
        have HO := Lib.hid ho
        obtain ⟨W2, hW2⟩ : ∃ W2, W2 = (w.alloc (.cells #[.int .u8 ty, .int .u8 rq, .int .u8 rs, .int .u16 sq] 25)).alloc (.cells #[.int .u8 2, .int .u8 0, .int .u8 1, .int .u16 sq] 25) := ⟨_, rfl⟩
        have HQ : Hid (AQ w (w.heap.size + 1) #[.int .u8 2, .int .u8 0, .int .u8 1, .int .u16 sq] W2) := Lib.hid (by
          rw [hW2]
          refine ⟨((Below.refl w.heap.size w).alloc (Nat.le_refl _) _).alloc (by rw [World.size_alloc]; omega) _, ?_, rfl⟩
          have := heap_alloc_new (w.alloc (.cells #[.int .u8 ty, .int .u8 rq, .int .u8 rs, .int .u16 sq] 25)) (.cells #[.int .u8 2, .int .u8 0, .int .u8 1, .int .u16 sq] 25)
          rw [World.size_alloc] at this
          exact this)
        have HC : 0 ≤ codeB e ∧ codeB e ≤ 255 := by unfold codeB; split <;> omega
        have HCB := Lib.hid HC
        have HW2 := Lib.hid hW2.symm
        clear ho he hW2 HC
        rcases h1' with rfl | rfl <;> rcases hrs with rfl | rfl
        all_goals
          go_enter Try.func18, Try.ntmps18
          go_upto_region 10 with fail
          rw [HW2.out]
          first
          | (go_region_held3 (fun W => W.cell? ⟨w.heap.size + 1, 0, none⟩ = some (.int .u8 2) ∧ W.cell? ⟨w.heap.size + 1, 1, none⟩ = some (.int .u8 0) ∧ W.cell? ⟨w.heap.size + 1, 2, none⟩ = some (.int .u8 1) ∧ W.cell? ⟨w.heap.size + 1, 3, none⟩ = some (.int .u16 sq) ∧ AQ w (w.heap.size + 1) #[.int .u8 2, .int .u8 0, .int .u8 1, .int .u16 sq] W)
              (with_reducible (first | assumption | exact HQ.out.s | exact HQ.out.drew.s | exact (HQ.out.alloc _).s | exact (HQ.out.alloc _).drew.s | exact (HQ.out.drew.alloc _).s | exact (HQ.out.drew.alloc _).drew.s | exact HF.out.1.s | exact HF.out.1.drew.s))
              (first
                | (go_at_call 23; refine (hcode_any _ _).mono ?_; rintro e2 w2 ⟨rfl, rfl⟩)
                | (go_at_call 25; first | refine (hwrite_any ⟨2, 0, 1, sq⟩ (HK'.out 1 (by omega) (by omega)) _ [codeB e] _ (row_one8 _ _ _) (fun _ _ h => by cases h) (by simp)).mono ?_ | refine (hwrite_any ⟨2, 0, 1, sq⟩ (HK'.out 1 (by omega) (by omega)) _ [codeB e] _ (row_one8d _ _ _) (fun _ _ h => by cases h) (by simp)).mono ?_; rintro e2 w2 ⟨p, rfl, hp, hw⟩; have HF := Lib.hid (by with_reducible (first | exact (HQ.out.alloc _).fin hp hw | exact (HQ.out.alloc _).drew.fin hp hw | exact (HQ.out.drew.alloc _).fin hp hw | exact (HQ.out.drew.alloc _).drew.fin hp hw) : AQ w (w.heap.size + 1) #[.int .u8 2, .int .u8 0, .int .u8 1, .int .u16 sq] w2 ∧ OwnBytes w.heap.size w2 p [2, 0, 1, sq / 256, sq % 256, codeB e]); clear hp hw)))
          | fail
          all_goals
            go_wp2
            go_ret2
            first | exact AnsP.yes HO.out HF.out.2 HF.out.1.old | exact AnsP.yes HO.out (HF.out.2.keep fun _ _ _ => rfl) (below_drewN HF.out.1.old _)
      · rw [if_neg (fun h => hrs h.2)] at ho
        have HO := Lib.hid ho
        have t1 : (rs == 1) = false := by simp; omega
        have t2 : (rs == 2) = false := by simp; omega
        clear ho hrs he
        rcases h1' with rfl | rfl
        all_goals
          go_enter Try.func18, Try.ntmps18
          go_wp2_with fail
          go_ret2
          exact AnsP.no HO.out HB2.out
end Go.Proofs.Ytfijcdidcnfadaa.Head
